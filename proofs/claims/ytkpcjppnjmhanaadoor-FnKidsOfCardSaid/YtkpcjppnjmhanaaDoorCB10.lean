/- Texts of this verifier. -/
import Derived.Test.YtkpcjppnjmhanaaDoorCB9
import Derived.Test.YtkpcjppnjmhanaaDoorCM1
set_option maxHeartbeats 4000000
set_option linter.unusedSimpArgs false
set_option linter.unusedSectionVars false
set_option linter.unusedVariables false
set_option maxRecDepth 4000
namespace Go.Proofs.YtkpcjppnjmhanaaDoor
open VwM Vw Go
variable [SentA]

theorem Jqz {cs:List Int} {es:List Ex} (h:vB cs es=true):cs.length ≤ 60 ∧ es.length ≤ 8 ∧ exB 4 es:=by
  obtain ⟨h1,h2,_⟩:=vB_8 h
  refine ⟨h2,h1,fun e he=>?_⟩
  obtain ⟨i,hi,e1⟩:=List.mem_iff_getElem.1 he
  have hs:=D6z.1 ((Fmz.1 h).2.2 i e (by rw [List.getElem?_eq_getElem hi,e1]))
  have hv:=hs.1.2
  have hg:=(Czz (Dfz.1 hv).1).1.2
  have hl:=(Eoz hv).2
  exact ⟨hg,by omega⟩
theorem vB_x {cs:List Int} {es:List Ex} (h:vB cs es=true):cs.length ≤ 1099511627776 ∧ es.length ≤ 1099511627776 ∧ exB 1099511627776 es:=by
  obtain ⟨h1,h2,h3⟩:=Jqz h
  exact ⟨by omega,by omega,fun e he=>by have:=h3 e he;omega⟩
theorem zz_rng {cs:List Int} {N:Nat} (h:∀ x ∈ cs,0 ≤ x ∧ x ≤ 255):∀ x ∈ zz cs N,0 ≤ x ∧ x ≤ 255:=fun x hx=>by
  unfold zz at hx
  obtain ⟨j,_,rfl⟩:=List.mem_map.1 hx
  exact getD_rng h j
theorem vB_rz {cs:List Int} {es:List Ex} {s:Int} (h:rzG cs es s=true):vB (zz cs s.toNat) es=true:=by
  unfold rzG at h
  simp only [Bool.and_eq_true,decide_eq_true_eq,List.length_eq_zero_iff] at h
  refine vB_size h.1.1 h.2 (Dzz.2 ⟨by rw [zz_length];omega,zz_rng (Dzz.1 (Fmz.1 h.1.1).1).2⟩)
theorem rpt_rng {x:Int} {n:Nat} (h:0 ≤ x ∧ x ≤ 255):∀ y ∈ rpt [x] n,0 ≤ y ∧ y ≤ 255:=fun y hy=>by
  rw [rpt_one] at hy
  rw [(List.mem_replicate.1 hy).2]
  exact h
theorem vB_xf {cs:List Int} {es:List Ex} {id v:Int} (h:xfG cs es id v=true):vB (xfC cs es id v) es=true:=by
  unfold xfG at h
  simp only [Bool.and_eq_true,decide_eq_true_eq] at h
  exact vB_cells h.1.1 (Jbz ..) (vMem_put (Fmz.1 h.1.1).1 _ _ (rpt_rng h.2))
theorem vB_xc {cs:List Int} {es:List Ex} {t f:Int} (h:xcG cs es t f=true):vB (xcC cs es t f) es=true:=by
  unfold xcG at h
  simp only [Bool.and_eq_true] at h
  have hm:=(Fmz.1 h.1.1.1).1
  exact vB_cells h.1.1.1 (Emz ..) (vMem_put hm _ _ (Ilz (Dzz.1 hm).2))
abbrev OBd (q:Prop):AV → List (List AV) → Prop:=fun r H'=>∃ ok cs' es',(ok=true → vB cs' es'=true ∧ (q → 1 ≤ es'.length)) ∧ (cs'.length ≤ 60 ∧ es'.length ≤ 8 ∧ exB 4 es') ∧ r=.tup [.agg [.own 0 cs'.length 1,.own 1 es'.length 5],.bool ok] ∧ H'=[IL cs',EL true es']
theorem Kdz {q:Prop} {P:Program} {f:Nat} {args:List AV} {G:Bool} {C:List Int} {E:List Ex} (hc:BCall P f args [] (OBs G (ifB G C) (ifB G E))) (h:G=true → vB C E=true ∧ (q → 1 ≤ E.length)):BCall P f args [] (OBd q):=hc.mono fun r H' h1=>by
  refine ⟨G,ifB G C,ifB G E,fun hg=>?_,?_,h1.1,h1.2⟩
  · subst hg;exact h rfl
  · cases hG:G with
    | false=>exact ⟨Nat.zero_le _,Nat.zero_le _,fun e he=>by cases he⟩
    | true=>exact Jqz (h hG).1
/-- The numbers that an act has. -/
def actK (k:Int) (nums:List Int):Prop:=(k=0 ∧ ∃ a,nums=[a]) ∨ (k=1 ∧ ∃ a e s,nums=[a,e,s]) ∨ (k=2 ∧ ∃ a b c d,nums=[a,b,c,d]) ∨ (k=3 ∧ ∃ a,nums=[a]) ∨ (k=4 ∧ ∃ a v,nums=[a,v]) ∨ (k=5 ∧ ∃ a b,nums=[a,b]) ∨ (k=6 ∧ ∃ a,nums=[a]) ∨ (k=7 ∧ ∃ a,nums=[a])


theorem Ecz (cs:List Int) (es:List Ex) (m n:Nat) (s:Int) (hm:cs.length=m) (hn:es.length=n) (hv:vB cs es=true) :
    BCall Tryd.prog 22 [.agg [.rows false (IL cs) m,.rows false (EL false es) n],.int .i64 s] [] (OBd False):=by
  subst hm hn
  exact Kdz (sRz_ok cs es _ _ s rfl rfl (vB_x hv)) fun h=>⟨vB_rz h,fun h=>h.elim⟩


theorem Eez (cs:List Int) (es:List Ex) (m n:Nat) (b e s:Int) (hm:cs.length=m) (hn:es.length=n) (hv:vB cs es=true) :
    BCall Tryd.prog 77 [.agg [.rows false (IL cs) m,.rows false (EL false es) n],.agg [.int .i64 b,.rows false [.int .i64 e] 1,.rows false [.int .i64 s] 1]] [] (OBd True):=by
  subst hm hn
  exact Kdz (sEV_ok cs es _ _ b [e] [s] 1 1 rfl rfl rfl rfl ⟨⟨by decide,by decide⟩,vB_x hv⟩) fun h=>⟨vB_ev h,fun _=>by simp⟩


theorem Efz (cs:List Int) (es:List Ex) (m n:Nat) (id d f t w:Int) (hf ht:Bool) (hm:cs.length=m) (hn:es.length=n) (hv:vB cs es=true) :
    BCall Tryd.prog 78 [.agg [.rows false (IL cs) m,.rows false (EL false es) n],.int .i64 id,.int .i64 d,slc f t w hf ht] [] (OBd True):=by
  subst hm hn
  exact Kdz (sEP_ok cs es _ _ id d f t w hf ht rfl rfl (vB_x hv)) fun h=>⟨vB_ep h,fun _=>by unfold epE;simp⟩


theorem Eaz (cs:List Int) (es:List Ex) (m n:Nat) (id v:Int) (hm:cs.length=m) (hn:es.length=n) (hv:vB cs es=true) :
    BCall Tryd.prog 79 [.agg [.rows false (IL cs) m,.rows false (EL false es) n],.int .i64 id,.int .i64 v] [] (OBd False):=by
  subst hm hn
  exact Kdz (sFE_ok cs es _ _ id v rfl rfl (vB_x hv)) fun h=>⟨vB_xf h,fun h=>h.elim⟩


theorem Ebz (cs:List Int) (es:List Ex) (m n:Nat) (t f:Int) (hm:cs.length=m) (hn:es.length=n) (hv:vB cs es=true) :
    BCall Tryd.prog 80 [.agg [.rows false (IL cs) m,.rows false (EL false es) n],.int .i64 t,.int .i64 f] [] (OBd False):=by
  subst hm hn
  exact Kdz (sCE_ok cs es _ _ t f rfl rfl (vB_x hv)) fun h=>⟨vB_xc h,fun h=>h.elim⟩


theorem Edz (cs:List Int) (es:List Ex) (m n:Nat) (id:Int) (hm:cs.length=m) (hn:es.length=n) (hv:vB cs es=true) :
    BCall Tryd.prog 81 [.agg [.rows false (IL cs) m,.rows false (EL false es) n],.int .i64 id] [] (OBd False):=by
  subst hm hn
  exact Kdz (sRel_ok cs es _ _ id rfl rfl (vB_x hv)) fun h=>⟨vB_relG h,fun h=>h.elim⟩


set_option maxHeartbeats 16000000 in
theorem done_ok (cs:List Int) (es:List Ex) (m n:Nat) (k:Int) (nums:List Int) (l:Nat) (hm:cs.length=m) (hn:es.length=n) (hl:nums.length=l) (hv:vB cs es=true) (hk:actK k nums) (h6:k ≠ 6) :
    BCall Tryd.prog 68 [.agg [.rows false (IL cs) m,.rows false (EL false es) n],.agg [.int .i64 k,.rows false (IL nums) l]] [] (OBd (k=1 ∨ k=2 ∨ k=3)):=by
  subst hm hn hl
  have hel:=A6z false es
  refine A5z (pins:=[]) (pin:=0) l68_eq rfl rfl rfl ?_
  rcases hk with ⟨rfl,a,rfl⟩|⟨rfl,a,e,s,rfl⟩|⟨rfl,a,b,c,d,rfl⟩|⟨rfl,a,rfl⟩|⟨rfl,a,v,rfl⟩|⟨rfl,a,b,rfl⟩|⟨rfl,a,rfl⟩|⟨rfl,a,rfl⟩
  · (repeat' (first
 | (first|refine Apz ?_|refine Aiz ?_)
 | ((first|refine Aqz ?_|refine Asz (mid:=l68r4a) (post:=l68r4b) Axz (by decide) ?_|refine Asz (mid:=l68r6a) (post:=l68r6b) Axz (by decide) ?_|refine Asz (mid:=l68r8a) (post:=l68r8b) Axz (by decide) ?_|refine Asz (mid:=l68r10a) (post:=l68r10b) Axz (by decide) ?_|refine Asz (mid:=l68r12a) (post:=l68r12b) Axz (by decide) ?_|refine Asz (mid:=l68r14a) (post:=l68r14b) Axz (by decide) ?_|refine Asz (mid:=l68r16a) (post:=l68r16b) Axz (by decide) ?_|refine Asz (mid:=l68r17a) (post:=l68r17b) Axz (by decide) ?_|refine Ahz ?_|refine Ajz ?_|refine Akz ?_);simp (disch:=omega) only [push_cast,seval,l68r0,l68r1,l68r2,l68r3,l68r4a,l68r4b,l68r4,l68r5,l68r6a,l68r6b,l68r6,l68r7,l68r8a,l68r8b,l68r8,l68r9,l68r10a,l68r10b,l68r10,l68r11,l68r12a,l68r12b,l68r12,l68r13,l68r14a,l68r14b,l68r14,l68r15,l68r16a,l68r16b,l68r16,l68r17a,l68r17b,l68r17,hel,Aaz,IL])
 | ((first|refine Acz ?_ ?_|refine Agz ?_ ?_|refine Afz ?_ ?_)<;>intro h<;>(try simp only [h])<;>(try simp only [bitvec_to_nat] at h)<;>(try simp only [h])<;>(first|(exfalso;omega)|(exfalso;simp_all;done)|(simp (disch:=omega) only [push_cast,seval,hel,Aaz,IL])|skip))
 | ((first|refine Arz false ?_|refine Anz false ?_);simp (disch:=omega) only [push_cast,seval,hel,Aaz,IL])
 | ((first|((first|refine Adz (Ecz _ _ _ _ _ ?_ ?_ ?_) ?_|refine Abz (Ecz _ _ _ _ _ ?_ ?_ ?_) ⟨_,_,false,[],[],(fun h=>by cases h),⟨Nat.zero_le _,Nat.zero_le _,fun e he=>by cases he⟩,rfl,rfl⟩ ?_);(iterate 3 (exact sd));rintro _ _ ⟨ok,cs',es',hok,hbd,rfl,rfl⟩)|((first|refine Adz (Eez _ _ _ _ _ _ _ ?_ ?_ ?_) ?_|refine Abz (Eez _ _ _ _ _ _ _ ?_ ?_ ?_) ⟨_,_,false,[],[],(fun h=>by cases h),⟨Nat.zero_le _,Nat.zero_le _,fun e he=>by cases he⟩,rfl,rfl⟩ ?_);(iterate 3 (exact sd));rintro _ _ ⟨ok,cs',es',hok,hbd,rfl,rfl⟩)|((first|refine Adz (Efz _ _ _ _ _ _ _ _ _ _ _ ?_ ?_ ?_) ?_|refine Abz (Efz _ _ _ _ _ _ _ _ _ _ _ ?_ ?_ ?_) ⟨_,_,false,[],[],(fun h=>by cases h),⟨Nat.zero_le _,Nat.zero_le _,fun e he=>by cases he⟩,rfl,rfl⟩ ?_);(iterate 3 (exact sd));rintro _ _ ⟨ok,cs',es',hok,hbd,rfl,rfl⟩)|((first|refine Adz (Eaz _ _ _ _ _ _ ?_ ?_ ?_) ?_|refine Abz (Eaz _ _ _ _ _ _ ?_ ?_ ?_) ⟨_,_,false,[],[],(fun h=>by cases h),⟨Nat.zero_le _,Nat.zero_le _,fun e he=>by cases he⟩,rfl,rfl⟩ ?_);(iterate 3 (exact sd));rintro _ _ ⟨ok,cs',es',hok,hbd,rfl,rfl⟩)|((first|refine Adz (Ebz _ _ _ _ _ _ ?_ ?_ ?_) ?_|refine Abz (Ebz _ _ _ _ _ _ ?_ ?_ ?_) ⟨_,_,false,[],[],(fun h=>by cases h),⟨Nat.zero_le _,Nat.zero_le _,fun e he=>by cases he⟩,rfl,rfl⟩ ?_);(iterate 3 (exact sd));rintro _ _ ⟨ok,cs',es',hok,hbd,rfl,rfl⟩)|((first|refine Adz (Edz _ _ _ _ _ ?_ ?_ ?_) ?_|refine Abz (Edz _ _ _ _ _ ?_ ?_ ?_) ⟨_,_,false,[],[],(fun h=>by cases h),⟨Nat.zero_le _,Nat.zero_le _,fun e he=>by cases he⟩,rfl,rfl⟩ ?_);(iterate 3 (exact sd));rintro _ _ ⟨ok,cs',es',hok,hbd,rfl,rfl⟩)|((first|refine Adz (Aez (Bez _ _ _ _ _ ?_ ?_ ?_)) ?_|refine Abz (Aez (Bez _ _ _ _ _ ?_ ?_ ?_)) ⟨_,_,rfl,rfl⟩ ?_);(iterate 3 (exact sd));rintro _ _ ⟨rfl,rfl⟩))<;>(try simp (disch:=omega) only [push_cast,seval,hel,Aaz,IL]))
 | (refine Amz ⟨.inr rfl,[272,273],[],_,by decide,rfl,?_⟩;(try simp (disch:=omega) only [push_cast,seval,↓Aoz,↓Alz,↓List.map_cons,↓List.map_nil,hel,Aaz,IL]))))
    all_goals exact ⟨ok,cs',es',fun h=>⟨(hok h).1,fun hq=>by first|exact (hok h).2 trivial|(exact absurd hq (by decide))⟩,hbd,rfl,rfl⟩
  · (repeat' (first
 | (first|refine Apz ?_|refine Aiz ?_)
 | ((first|refine Aqz ?_|refine A2z (mid:=l68r4a) (post:=l68r4b) [] Axz (by decide) ?_|refine A2z (mid:=l68r6a) (post:=l68r6b) [] Axz (by decide) ?_|refine A2z (mid:=l68r8a) (post:=l68r8b) [] Axz (by decide) ?_|refine A2z (mid:=l68r10a) (post:=l68r10b) [] Axz (by decide) ?_|refine A2z (mid:=l68r12a) (post:=l68r12b) [] Axz (by decide) ?_|refine A2z (mid:=l68r14a) (post:=l68r14b) [] Axz (by decide) ?_|refine A2z (mid:=l68r16a) (post:=l68r16b) [] Axz (by decide) ?_|refine A2z (mid:=l68r17a) (post:=l68r17b) [] Axz (by decide) ?_|refine Ahz ?_|refine Ajz ?_|refine Akz ?_);simp (disch:=omega) only [push_cast,seval,l68r0,l68r1,l68r2,l68r3,l68r4a,l68r4b,l68r4,l68r5,l68r6a,l68r6b,l68r6,l68r7,l68r8a,l68r8b,l68r8,l68r9,l68r10a,l68r10b,l68r10,l68r11,l68r12a,l68r12b,l68r12,l68r13,l68r14a,l68r14b,l68r14,l68r15,l68r16a,l68r16b,l68r16,l68r17a,l68r17b,l68r17,hel,Aaz,IL])
 | ((first|refine Acz ?_ ?_|refine Agz ?_ ?_|refine Afz ?_ ?_)<;>intro h<;>(try simp only [h])<;>(try simp only [bitvec_to_nat] at h)<;>(try simp only [h])<;>(first|(exfalso;omega)|(exfalso;simp_all;done)|(simp (disch:=omega) only [push_cast,seval,hel,Aaz,IL])|skip))
 | ((first|refine Arz false ?_|refine Anz false ?_);simp (disch:=omega) only [push_cast,seval,hel,Aaz,IL])
 | ((first|((first|refine Adz (Ecz _ _ _ _ _ ?_ ?_ ?_) ?_|refine Abz (Ecz _ _ _ _ _ ?_ ?_ ?_) ⟨_,_,false,[],[],(fun h=>by cases h),⟨Nat.zero_le _,Nat.zero_le _,fun e he=>by cases he⟩,rfl,rfl⟩ ?_);(iterate 3 (exact sd));rintro _ _ ⟨ok,cs',es',hok,hbd,rfl,rfl⟩)|((first|refine Adz (Eez _ _ _ _ _ _ _ ?_ ?_ ?_) ?_|refine Abz (Eez _ _ _ _ _ _ _ ?_ ?_ ?_) ⟨_,_,false,[],[],(fun h=>by cases h),⟨Nat.zero_le _,Nat.zero_le _,fun e he=>by cases he⟩,rfl,rfl⟩ ?_);(iterate 3 (exact sd));rintro _ _ ⟨ok,cs',es',hok,hbd,rfl,rfl⟩)|((first|refine Adz (Efz _ _ _ _ _ _ _ _ _ _ _ ?_ ?_ ?_) ?_|refine Abz (Efz _ _ _ _ _ _ _ _ _ _ _ ?_ ?_ ?_) ⟨_,_,false,[],[],(fun h=>by cases h),⟨Nat.zero_le _,Nat.zero_le _,fun e he=>by cases he⟩,rfl,rfl⟩ ?_);(iterate 3 (exact sd));rintro _ _ ⟨ok,cs',es',hok,hbd,rfl,rfl⟩)|((first|refine Adz (Eaz _ _ _ _ _ _ ?_ ?_ ?_) ?_|refine Abz (Eaz _ _ _ _ _ _ ?_ ?_ ?_) ⟨_,_,false,[],[],(fun h=>by cases h),⟨Nat.zero_le _,Nat.zero_le _,fun e he=>by cases he⟩,rfl,rfl⟩ ?_);(iterate 3 (exact sd));rintro _ _ ⟨ok,cs',es',hok,hbd,rfl,rfl⟩)|((first|refine Adz (Ebz _ _ _ _ _ _ ?_ ?_ ?_) ?_|refine Abz (Ebz _ _ _ _ _ _ ?_ ?_ ?_) ⟨_,_,false,[],[],(fun h=>by cases h),⟨Nat.zero_le _,Nat.zero_le _,fun e he=>by cases he⟩,rfl,rfl⟩ ?_);(iterate 3 (exact sd));rintro _ _ ⟨ok,cs',es',hok,hbd,rfl,rfl⟩)|((first|refine Adz (Edz _ _ _ _ _ ?_ ?_ ?_) ?_|refine Abz (Edz _ _ _ _ _ ?_ ?_ ?_) ⟨_,_,false,[],[],(fun h=>by cases h),⟨Nat.zero_le _,Nat.zero_le _,fun e he=>by cases he⟩,rfl,rfl⟩ ?_);(iterate 3 (exact sd));rintro _ _ ⟨ok,cs',es',hok,hbd,rfl,rfl⟩)|((first|refine Adz (Aez (Bez _ _ _ _ _ ?_ ?_ ?_)) ?_|refine Abz (Aez (Bez _ _ _ _ _ ?_ ?_ ?_)) ⟨_,_,rfl,rfl⟩ ?_);(iterate 3 (exact sd));rintro _ _ ⟨rfl,rfl⟩))<;>(try simp (disch:=omega) only [push_cast,seval,hel,Aaz,IL]))
 | (refine Amz ⟨.inr rfl,[560,561],[],_,by decide,rfl,?_⟩;(try simp (disch:=omega) only [push_cast,seval,↓Aoz,↓Alz,↓List.map_cons,↓List.map_nil,hel,Aaz,IL]))))
    all_goals exact ⟨ok,cs',es',fun h=>⟨(hok h).1,fun hq=>by first|exact (hok h).2 trivial|(exact absurd hq (by decide))⟩,hbd,rfl,rfl⟩
  · (repeat' (first
 | (first|refine Apz ?_|refine Aiz ?_)
 | ((first|refine Aqz ?_|refine Asz (mid:=l68r4a) (post:=l68r4b) Axz (by decide) ?_|refine Asz (mid:=l68r6a) (post:=l68r6b) Axz (by decide) ?_|refine Asz (mid:=l68r8a) (post:=l68r8b) Axz (by decide) ?_|refine Asz (mid:=l68r10a) (post:=l68r10b) Axz (by decide) ?_|refine Asz (mid:=l68r12a) (post:=l68r12b) Axz (by decide) ?_|refine Asz (mid:=l68r14a) (post:=l68r14b) Axz (by decide) ?_|refine Asz (mid:=l68r16a) (post:=l68r16b) Axz (by decide) ?_|refine Asz (mid:=l68r17a) (post:=l68r17b) Axz (by decide) ?_|refine Ahz ?_|refine Ajz ?_|refine Akz ?_);simp (disch:=omega) only [push_cast,seval,l68r0,l68r1,l68r2,l68r3,l68r4a,l68r4b,l68r4,l68r5,l68r6a,l68r6b,l68r6,l68r7,l68r8a,l68r8b,l68r8,l68r9,l68r10a,l68r10b,l68r10,l68r11,l68r12a,l68r12b,l68r12,l68r13,l68r14a,l68r14b,l68r14,l68r15,l68r16a,l68r16b,l68r16,l68r17a,l68r17b,l68r17,hel,Aaz,IL])
 | ((first|refine Acz ?_ ?_|refine Agz ?_ ?_|refine Afz ?_ ?_)<;>intro h<;>(try simp only [h])<;>(try simp only [bitvec_to_nat] at h)<;>(try simp only [h])<;>(first|(exfalso;omega)|(exfalso;simp_all;done)|(simp (disch:=omega) only [push_cast,seval,hel,Aaz,IL])|skip))
 | ((first|refine Arz false ?_|refine Anz false ?_);simp (disch:=omega) only [push_cast,seval,hel,Aaz,IL])
 | ((first|((first|refine Adz (Ecz _ _ _ _ _ ?_ ?_ ?_) ?_|refine Abz (Ecz _ _ _ _ _ ?_ ?_ ?_) ⟨_,_,false,[],[],(fun h=>by cases h),⟨Nat.zero_le _,Nat.zero_le _,fun e he=>by cases he⟩,rfl,rfl⟩ ?_);(iterate 3 (exact sd));rintro _ _ ⟨ok,cs',es',hok,hbd,rfl,rfl⟩)|((first|refine Adz (Eez _ _ _ _ _ _ _ ?_ ?_ ?_) ?_|refine Abz (Eez _ _ _ _ _ _ _ ?_ ?_ ?_) ⟨_,_,false,[],[],(fun h=>by cases h),⟨Nat.zero_le _,Nat.zero_le _,fun e he=>by cases he⟩,rfl,rfl⟩ ?_);(iterate 3 (exact sd));rintro _ _ ⟨ok,cs',es',hok,hbd,rfl,rfl⟩)|((first|refine Adz (Efz _ _ _ _ _ _ _ _ _ _ _ ?_ ?_ ?_) ?_|refine Abz (Efz _ _ _ _ _ _ _ _ _ _ _ ?_ ?_ ?_) ⟨_,_,false,[],[],(fun h=>by cases h),⟨Nat.zero_le _,Nat.zero_le _,fun e he=>by cases he⟩,rfl,rfl⟩ ?_);(iterate 3 (exact sd));rintro _ _ ⟨ok,cs',es',hok,hbd,rfl,rfl⟩)|((first|refine Adz (Eaz _ _ _ _ _ _ ?_ ?_ ?_) ?_|refine Abz (Eaz _ _ _ _ _ _ ?_ ?_ ?_) ⟨_,_,false,[],[],(fun h=>by cases h),⟨Nat.zero_le _,Nat.zero_le _,fun e he=>by cases he⟩,rfl,rfl⟩ ?_);(iterate 3 (exact sd));rintro _ _ ⟨ok,cs',es',hok,hbd,rfl,rfl⟩)|((first|refine Adz (Ebz _ _ _ _ _ _ ?_ ?_ ?_) ?_|refine Abz (Ebz _ _ _ _ _ _ ?_ ?_ ?_) ⟨_,_,false,[],[],(fun h=>by cases h),⟨Nat.zero_le _,Nat.zero_le _,fun e he=>by cases he⟩,rfl,rfl⟩ ?_);(iterate 3 (exact sd));rintro _ _ ⟨ok,cs',es',hok,hbd,rfl,rfl⟩)|((first|refine Adz (Edz _ _ _ _ _ ?_ ?_ ?_) ?_|refine Abz (Edz _ _ _ _ _ ?_ ?_ ?_) ⟨_,_,false,[],[],(fun h=>by cases h),⟨Nat.zero_le _,Nat.zero_le _,fun e he=>by cases he⟩,rfl,rfl⟩ ?_);(iterate 3 (exact sd));rintro _ _ ⟨ok,cs',es',hok,hbd,rfl,rfl⟩)|((first|refine Adz (Aez (Bez _ _ _ _ _ ?_ ?_ ?_)) ?_|refine Abz (Aez (Bez _ _ _ _ _ ?_ ?_ ?_)) ⟨_,_,rfl,rfl⟩ ?_);(iterate 3 (exact sd));rintro _ _ ⟨rfl,rfl⟩))<;>(try simp (disch:=omega) only [push_cast,seval,hel,Aaz,IL]))
 | (refine Amz ⟨.inr rfl,[864,865],[],_,by decide,rfl,?_⟩;(try simp (disch:=omega) only [push_cast,seval,↓Aoz,↓Alz,↓List.map_cons,↓List.map_nil,hel,Aaz,IL]))))
    all_goals exact ⟨ok,cs',es',fun h=>⟨(hok h).1,fun hq=>by first|exact (hok h).2 trivial|(exact absurd hq (by decide))⟩,hbd,rfl,rfl⟩
  · (repeat' (first
 | (first|refine Apz ?_|refine Aiz ?_)
 | ((first|refine Aqz ?_|refine Asz (mid:=l68r4a) (post:=l68r4b) Axz (by decide) ?_|refine Asz (mid:=l68r6a) (post:=l68r6b) Axz (by decide) ?_|refine Asz (mid:=l68r8a) (post:=l68r8b) Axz (by decide) ?_|refine Asz (mid:=l68r10a) (post:=l68r10b) Axz (by decide) ?_|refine Asz (mid:=l68r12a) (post:=l68r12b) Axz (by decide) ?_|refine Asz (mid:=l68r14a) (post:=l68r14b) Axz (by decide) ?_|refine Asz (mid:=l68r16a) (post:=l68r16b) Axz (by decide) ?_|refine Asz (mid:=l68r17a) (post:=l68r17b) Axz (by decide) ?_|refine Ahz ?_|refine Ajz ?_|refine Akz ?_);simp (disch:=omega) only [push_cast,seval,l68r0,l68r1,l68r2,l68r3,l68r4a,l68r4b,l68r4,l68r5,l68r6a,l68r6b,l68r6,l68r7,l68r8a,l68r8b,l68r8,l68r9,l68r10a,l68r10b,l68r10,l68r11,l68r12a,l68r12b,l68r12,l68r13,l68r14a,l68r14b,l68r14,l68r15,l68r16a,l68r16b,l68r16,l68r17a,l68r17b,l68r17,hel,Aaz,IL])
 | ((first|refine Acz ?_ ?_|refine Agz ?_ ?_|refine Afz ?_ ?_)<;>intro h<;>(try simp only [h])<;>(try simp only [bitvec_to_nat] at h)<;>(try simp only [h])<;>(first|(exfalso;omega)|(exfalso;simp_all;done)|(simp (disch:=omega) only [push_cast,seval,hel,Aaz,IL])|skip))
 | ((first|refine Arz false ?_|refine Anz false ?_);simp (disch:=omega) only [push_cast,seval,hel,Aaz,IL])
 | ((first|((first|refine Adz (Ecz _ _ _ _ _ ?_ ?_ ?_) ?_|refine Abz (Ecz _ _ _ _ _ ?_ ?_ ?_) ⟨_,_,false,[],[],(fun h=>by cases h),⟨Nat.zero_le _,Nat.zero_le _,fun e he=>by cases he⟩,rfl,rfl⟩ ?_);(iterate 3 (exact sd));rintro _ _ ⟨ok,cs',es',hok,hbd,rfl,rfl⟩)|((first|refine Adz (Eez _ _ _ _ _ _ _ ?_ ?_ ?_) ?_|refine Abz (Eez _ _ _ _ _ _ _ ?_ ?_ ?_) ⟨_,_,false,[],[],(fun h=>by cases h),⟨Nat.zero_le _,Nat.zero_le _,fun e he=>by cases he⟩,rfl,rfl⟩ ?_);(iterate 3 (exact sd));rintro _ _ ⟨ok,cs',es',hok,hbd,rfl,rfl⟩)|((first|refine Adz (Efz _ _ _ _ _ _ _ _ _ _ _ ?_ ?_ ?_) ?_|refine Abz (Efz _ _ _ _ _ _ _ _ _ _ _ ?_ ?_ ?_) ⟨_,_,false,[],[],(fun h=>by cases h),⟨Nat.zero_le _,Nat.zero_le _,fun e he=>by cases he⟩,rfl,rfl⟩ ?_);(iterate 3 (exact sd));rintro _ _ ⟨ok,cs',es',hok,hbd,rfl,rfl⟩)|((first|refine Adz (Eaz _ _ _ _ _ _ ?_ ?_ ?_) ?_|refine Abz (Eaz _ _ _ _ _ _ ?_ ?_ ?_) ⟨_,_,false,[],[],(fun h=>by cases h),⟨Nat.zero_le _,Nat.zero_le _,fun e he=>by cases he⟩,rfl,rfl⟩ ?_);(iterate 3 (exact sd));rintro _ _ ⟨ok,cs',es',hok,hbd,rfl,rfl⟩)|((first|refine Adz (Ebz _ _ _ _ _ _ ?_ ?_ ?_) ?_|refine Abz (Ebz _ _ _ _ _ _ ?_ ?_ ?_) ⟨_,_,false,[],[],(fun h=>by cases h),⟨Nat.zero_le _,Nat.zero_le _,fun e he=>by cases he⟩,rfl,rfl⟩ ?_);(iterate 3 (exact sd));rintro _ _ ⟨ok,cs',es',hok,hbd,rfl,rfl⟩)|((first|refine Adz (Edz _ _ _ _ _ ?_ ?_ ?_) ?_|refine Abz (Edz _ _ _ _ _ ?_ ?_ ?_) ⟨_,_,false,[],[],(fun h=>by cases h),⟨Nat.zero_le _,Nat.zero_le _,fun e he=>by cases he⟩,rfl,rfl⟩ ?_);(iterate 3 (exact sd));rintro _ _ ⟨ok,cs',es',hok,hbd,rfl,rfl⟩)|((first|refine Adz (Aez (Bez _ _ _ _ _ ?_ ?_ ?_)) ?_|refine Abz (Aez (Bez _ _ _ _ _ ?_ ?_ ?_)) ⟨_,_,rfl,rfl⟩ ?_);(iterate 3 (exact sd));rintro _ _ ⟨rfl,rfl⟩))<;>(try simp (disch:=omega) only [push_cast,seval,hel,Aaz,IL]))
 | (refine Amz ⟨.inr rfl,[1024,1025],[],_,by decide,rfl,?_⟩;(try simp (disch:=omega) only [push_cast,seval,↓Aoz,↓Alz,↓List.map_cons,↓List.map_nil,hel,Aaz,IL]))))
    all_goals exact ⟨ok,cs',es',fun h=>⟨(hok h).1,fun hq=>by first|exact (hok h).2 trivial|(exact absurd hq (by decide))⟩,hbd,rfl,rfl⟩
  · (repeat' (first
 | (first|refine Apz ?_|refine Aiz ?_)
 | ((first|refine Aqz ?_|refine Asz (mid:=l68r4a) (post:=l68r4b) Axz (by decide) ?_|refine Asz (mid:=l68r6a) (post:=l68r6b) Axz (by decide) ?_|refine Asz (mid:=l68r8a) (post:=l68r8b) Axz (by decide) ?_|refine Asz (mid:=l68r10a) (post:=l68r10b) Axz (by decide) ?_|refine Asz (mid:=l68r12a) (post:=l68r12b) Axz (by decide) ?_|refine Asz (mid:=l68r14a) (post:=l68r14b) Axz (by decide) ?_|refine Asz (mid:=l68r16a) (post:=l68r16b) Axz (by decide) ?_|refine Asz (mid:=l68r17a) (post:=l68r17b) Axz (by decide) ?_|refine Ahz ?_|refine Ajz ?_|refine Akz ?_);simp (disch:=omega) only [push_cast,seval,l68r0,l68r1,l68r2,l68r3,l68r4a,l68r4b,l68r4,l68r5,l68r6a,l68r6b,l68r6,l68r7,l68r8a,l68r8b,l68r8,l68r9,l68r10a,l68r10b,l68r10,l68r11,l68r12a,l68r12b,l68r12,l68r13,l68r14a,l68r14b,l68r14,l68r15,l68r16a,l68r16b,l68r16,l68r17a,l68r17b,l68r17,hel,Aaz,IL])
 | ((first|refine Acz ?_ ?_|refine Agz ?_ ?_|refine Afz ?_ ?_)<;>intro h<;>(try simp only [h])<;>(try simp only [bitvec_to_nat] at h)<;>(try simp only [h])<;>(first|(exfalso;omega)|(exfalso;simp_all;done)|(simp (disch:=omega) only [push_cast,seval,hel,Aaz,IL])|skip))
 | ((first|refine Arz false ?_|refine Anz false ?_);simp (disch:=omega) only [push_cast,seval,hel,Aaz,IL])
 | ((first|((first|refine Adz (Ecz _ _ _ _ _ ?_ ?_ ?_) ?_|refine Abz (Ecz _ _ _ _ _ ?_ ?_ ?_) ⟨_,_,false,[],[],(fun h=>by cases h),⟨Nat.zero_le _,Nat.zero_le _,fun e he=>by cases he⟩,rfl,rfl⟩ ?_);(iterate 3 (exact sd));rintro _ _ ⟨ok,cs',es',hok,hbd,rfl,rfl⟩)|((first|refine Adz (Eez _ _ _ _ _ _ _ ?_ ?_ ?_) ?_|refine Abz (Eez _ _ _ _ _ _ _ ?_ ?_ ?_) ⟨_,_,false,[],[],(fun h=>by cases h),⟨Nat.zero_le _,Nat.zero_le _,fun e he=>by cases he⟩,rfl,rfl⟩ ?_);(iterate 3 (exact sd));rintro _ _ ⟨ok,cs',es',hok,hbd,rfl,rfl⟩)|((first|refine Adz (Efz _ _ _ _ _ _ _ _ _ _ _ ?_ ?_ ?_) ?_|refine Abz (Efz _ _ _ _ _ _ _ _ _ _ _ ?_ ?_ ?_) ⟨_,_,false,[],[],(fun h=>by cases h),⟨Nat.zero_le _,Nat.zero_le _,fun e he=>by cases he⟩,rfl,rfl⟩ ?_);(iterate 3 (exact sd));rintro _ _ ⟨ok,cs',es',hok,hbd,rfl,rfl⟩)|((first|refine Adz (Eaz _ _ _ _ _ _ ?_ ?_ ?_) ?_|refine Abz (Eaz _ _ _ _ _ _ ?_ ?_ ?_) ⟨_,_,false,[],[],(fun h=>by cases h),⟨Nat.zero_le _,Nat.zero_le _,fun e he=>by cases he⟩,rfl,rfl⟩ ?_);(iterate 3 (exact sd));rintro _ _ ⟨ok,cs',es',hok,hbd,rfl,rfl⟩)|((first|refine Adz (Ebz _ _ _ _ _ _ ?_ ?_ ?_) ?_|refine Abz (Ebz _ _ _ _ _ _ ?_ ?_ ?_) ⟨_,_,false,[],[],(fun h=>by cases h),⟨Nat.zero_le _,Nat.zero_le _,fun e he=>by cases he⟩,rfl,rfl⟩ ?_);(iterate 3 (exact sd));rintro _ _ ⟨ok,cs',es',hok,hbd,rfl,rfl⟩)|((first|refine Adz (Edz _ _ _ _ _ ?_ ?_ ?_) ?_|refine Abz (Edz _ _ _ _ _ ?_ ?_ ?_) ⟨_,_,false,[],[],(fun h=>by cases h),⟨Nat.zero_le _,Nat.zero_le _,fun e he=>by cases he⟩,rfl,rfl⟩ ?_);(iterate 3 (exact sd));rintro _ _ ⟨ok,cs',es',hok,hbd,rfl,rfl⟩)|((first|refine Adz (Aez (Bez _ _ _ _ _ ?_ ?_ ?_)) ?_|refine Abz (Aez (Bez _ _ _ _ _ ?_ ?_ ?_)) ⟨_,_,rfl,rfl⟩ ?_);(iterate 3 (exact sd));rintro _ _ ⟨rfl,rfl⟩))<;>(try simp (disch:=omega) only [push_cast,seval,hel,Aaz,IL]))
 | (refine Amz ⟨.inr rfl,[1216,1217],[],_,by decide,rfl,?_⟩;(try simp (disch:=omega) only [push_cast,seval,↓Aoz,↓Alz,↓List.map_cons,↓List.map_nil,hel,Aaz,IL]))))
    all_goals exact ⟨ok,cs',es',fun h=>⟨(hok h).1,fun hq=>by first|exact (hok h).2 trivial|(exact absurd hq (by decide))⟩,hbd,rfl,rfl⟩
  · (repeat' (first
 | (first|refine Apz ?_|refine Aiz ?_)
 | ((first|refine Aqz ?_|refine Asz (mid:=l68r4a) (post:=l68r4b) Axz (by decide) ?_|refine Asz (mid:=l68r6a) (post:=l68r6b) Axz (by decide) ?_|refine Asz (mid:=l68r8a) (post:=l68r8b) Axz (by decide) ?_|refine Asz (mid:=l68r10a) (post:=l68r10b) Axz (by decide) ?_|refine Asz (mid:=l68r12a) (post:=l68r12b) Axz (by decide) ?_|refine Asz (mid:=l68r14a) (post:=l68r14b) Axz (by decide) ?_|refine Asz (mid:=l68r16a) (post:=l68r16b) Axz (by decide) ?_|refine Asz (mid:=l68r17a) (post:=l68r17b) Axz (by decide) ?_|refine Ahz ?_|refine Ajz ?_|refine Akz ?_);simp (disch:=omega) only [push_cast,seval,l68r0,l68r1,l68r2,l68r3,l68r4a,l68r4b,l68r4,l68r5,l68r6a,l68r6b,l68r6,l68r7,l68r8a,l68r8b,l68r8,l68r9,l68r10a,l68r10b,l68r10,l68r11,l68r12a,l68r12b,l68r12,l68r13,l68r14a,l68r14b,l68r14,l68r15,l68r16a,l68r16b,l68r16,l68r17a,l68r17b,l68r17,hel,Aaz,IL])
 | ((first|refine Acz ?_ ?_|refine Agz ?_ ?_|refine Afz ?_ ?_)<;>intro h<;>(try simp only [h])<;>(try simp only [bitvec_to_nat] at h)<;>(try simp only [h])<;>(first|(exfalso;omega)|(exfalso;simp_all;done)|(simp (disch:=omega) only [push_cast,seval,hel,Aaz,IL])|skip))
 | ((first|refine Arz false ?_|refine Anz false ?_);simp (disch:=omega) only [push_cast,seval,hel,Aaz,IL])
 | ((first|((first|refine Adz (Ecz _ _ _ _ _ ?_ ?_ ?_) ?_|refine Abz (Ecz _ _ _ _ _ ?_ ?_ ?_) ⟨_,_,false,[],[],(fun h=>by cases h),⟨Nat.zero_le _,Nat.zero_le _,fun e he=>by cases he⟩,rfl,rfl⟩ ?_);(iterate 3 (exact sd));rintro _ _ ⟨ok,cs',es',hok,hbd,rfl,rfl⟩)|((first|refine Adz (Eez _ _ _ _ _ _ _ ?_ ?_ ?_) ?_|refine Abz (Eez _ _ _ _ _ _ _ ?_ ?_ ?_) ⟨_,_,false,[],[],(fun h=>by cases h),⟨Nat.zero_le _,Nat.zero_le _,fun e he=>by cases he⟩,rfl,rfl⟩ ?_);(iterate 3 (exact sd));rintro _ _ ⟨ok,cs',es',hok,hbd,rfl,rfl⟩)|((first|refine Adz (Efz _ _ _ _ _ _ _ _ _ _ _ ?_ ?_ ?_) ?_|refine Abz (Efz _ _ _ _ _ _ _ _ _ _ _ ?_ ?_ ?_) ⟨_,_,false,[],[],(fun h=>by cases h),⟨Nat.zero_le _,Nat.zero_le _,fun e he=>by cases he⟩,rfl,rfl⟩ ?_);(iterate 3 (exact sd));rintro _ _ ⟨ok,cs',es',hok,hbd,rfl,rfl⟩)|((first|refine Adz (Eaz _ _ _ _ _ _ ?_ ?_ ?_) ?_|refine Abz (Eaz _ _ _ _ _ _ ?_ ?_ ?_) ⟨_,_,false,[],[],(fun h=>by cases h),⟨Nat.zero_le _,Nat.zero_le _,fun e he=>by cases he⟩,rfl,rfl⟩ ?_);(iterate 3 (exact sd));rintro _ _ ⟨ok,cs',es',hok,hbd,rfl,rfl⟩)|((first|refine Adz (Ebz _ _ _ _ _ _ ?_ ?_ ?_) ?_|refine Abz (Ebz _ _ _ _ _ _ ?_ ?_ ?_) ⟨_,_,false,[],[],(fun h=>by cases h),⟨Nat.zero_le _,Nat.zero_le _,fun e he=>by cases he⟩,rfl,rfl⟩ ?_);(iterate 3 (exact sd));rintro _ _ ⟨ok,cs',es',hok,hbd,rfl,rfl⟩)|((first|refine Adz (Edz _ _ _ _ _ ?_ ?_ ?_) ?_|refine Abz (Edz _ _ _ _ _ ?_ ?_ ?_) ⟨_,_,false,[],[],(fun h=>by cases h),⟨Nat.zero_le _,Nat.zero_le _,fun e he=>by cases he⟩,rfl,rfl⟩ ?_);(iterate 3 (exact sd));rintro _ _ ⟨ok,cs',es',hok,hbd,rfl,rfl⟩)|((first|refine Adz (Aez (Bez _ _ _ _ _ ?_ ?_ ?_)) ?_|refine Abz (Aez (Bez _ _ _ _ _ ?_ ?_ ?_)) ⟨_,_,rfl,rfl⟩ ?_);(iterate 3 (exact sd));rintro _ _ ⟨rfl,rfl⟩))<;>(try simp (disch:=omega) only [push_cast,seval,hel,Aaz,IL]))
 | (refine Amz ⟨.inr rfl,[1408,1409],[],_,by decide,rfl,?_⟩;(try simp (disch:=omega) only [push_cast,seval,↓Aoz,↓Alz,↓List.map_cons,↓List.map_nil,hel,Aaz,IL]))))
    all_goals exact ⟨ok,cs',es',fun h=>⟨(hok h).1,fun hq=>by first|exact (hok h).2 trivial|(exact absurd hq (by decide))⟩,hbd,rfl,rfl⟩
  · exact absurd rfl h6
  · (repeat' (first
 | (first|refine Apz ?_|refine Aiz ?_)
 | ((first|refine Aqz ?_|refine Asz (mid:=l68r4a) (post:=l68r4b) Axz (by decide) ?_|refine Asz (mid:=l68r6a) (post:=l68r6b) Axz (by decide) ?_|refine Asz (mid:=l68r8a) (post:=l68r8b) Axz (by decide) ?_|refine Asz (mid:=l68r10a) (post:=l68r10b) Axz (by decide) ?_|refine Asz (mid:=l68r12a) (post:=l68r12b) Axz (by decide) ?_|refine Asz (mid:=l68r14a) (post:=l68r14b) Axz (by decide) ?_|refine Asz (mid:=l68r16a) (post:=l68r16b) Axz (by decide) ?_|refine Asz (mid:=l68r17a) (post:=l68r17b) Axz (by decide) ?_|refine Ahz ?_|refine Ajz ?_|refine Akz ?_);simp (disch:=omega) only [push_cast,seval,l68r0,l68r1,l68r2,l68r3,l68r4a,l68r4b,l68r4,l68r5,l68r6a,l68r6b,l68r6,l68r7,l68r8a,l68r8b,l68r8,l68r9,l68r10a,l68r10b,l68r10,l68r11,l68r12a,l68r12b,l68r12,l68r13,l68r14a,l68r14b,l68r14,l68r15,l68r16a,l68r16b,l68r16,l68r17a,l68r17b,l68r17,hel,Aaz,IL])
 | ((first|refine Acz ?_ ?_|refine Agz ?_ ?_|refine Afz ?_ ?_)<;>intro h<;>(try simp only [h])<;>(try simp only [bitvec_to_nat] at h)<;>(try simp only [h])<;>(first|(exfalso;omega)|(exfalso;simp_all;done)|(simp (disch:=omega) only [push_cast,seval,hel,Aaz,IL])|skip))
 | ((first|refine Arz false ?_|refine Anz false ?_);simp (disch:=omega) only [push_cast,seval,hel,Aaz,IL])
 | ((first|((first|refine Adz (Ecz _ _ _ _ _ ?_ ?_ ?_) ?_|refine Abz (Ecz _ _ _ _ _ ?_ ?_ ?_) ⟨_,_,false,[],[],(fun h=>by cases h),⟨Nat.zero_le _,Nat.zero_le _,fun e he=>by cases he⟩,rfl,rfl⟩ ?_);(iterate 3 (exact sd));rintro _ _ ⟨ok,cs',es',hok,hbd,rfl,rfl⟩)|((first|refine Adz (Eez _ _ _ _ _ _ _ ?_ ?_ ?_) ?_|refine Abz (Eez _ _ _ _ _ _ _ ?_ ?_ ?_) ⟨_,_,false,[],[],(fun h=>by cases h),⟨Nat.zero_le _,Nat.zero_le _,fun e he=>by cases he⟩,rfl,rfl⟩ ?_);(iterate 3 (exact sd));rintro _ _ ⟨ok,cs',es',hok,hbd,rfl,rfl⟩)|((first|refine Adz (Efz _ _ _ _ _ _ _ _ _ _ _ ?_ ?_ ?_) ?_|refine Abz (Efz _ _ _ _ _ _ _ _ _ _ _ ?_ ?_ ?_) ⟨_,_,false,[],[],(fun h=>by cases h),⟨Nat.zero_le _,Nat.zero_le _,fun e he=>by cases he⟩,rfl,rfl⟩ ?_);(iterate 3 (exact sd));rintro _ _ ⟨ok,cs',es',hok,hbd,rfl,rfl⟩)|((first|refine Adz (Eaz _ _ _ _ _ _ ?_ ?_ ?_) ?_|refine Abz (Eaz _ _ _ _ _ _ ?_ ?_ ?_) ⟨_,_,false,[],[],(fun h=>by cases h),⟨Nat.zero_le _,Nat.zero_le _,fun e he=>by cases he⟩,rfl,rfl⟩ ?_);(iterate 3 (exact sd));rintro _ _ ⟨ok,cs',es',hok,hbd,rfl,rfl⟩)|((first|refine Adz (Ebz _ _ _ _ _ _ ?_ ?_ ?_) ?_|refine Abz (Ebz _ _ _ _ _ _ ?_ ?_ ?_) ⟨_,_,false,[],[],(fun h=>by cases h),⟨Nat.zero_le _,Nat.zero_le _,fun e he=>by cases he⟩,rfl,rfl⟩ ?_);(iterate 3 (exact sd));rintro _ _ ⟨ok,cs',es',hok,hbd,rfl,rfl⟩)|((first|refine Adz (Edz _ _ _ _ _ ?_ ?_ ?_) ?_|refine Abz (Edz _ _ _ _ _ ?_ ?_ ?_) ⟨_,_,false,[],[],(fun h=>by cases h),⟨Nat.zero_le _,Nat.zero_le _,fun e he=>by cases he⟩,rfl,rfl⟩ ?_);(iterate 3 (exact sd));rintro _ _ ⟨ok,cs',es',hok,hbd,rfl,rfl⟩)|((first|refine Adz (Aez (Bez _ _ _ _ _ ?_ ?_ ?_)) ?_|refine Abz (Aez (Bez _ _ _ _ _ ?_ ?_ ?_)) ⟨_,_,rfl,rfl⟩ ?_);(iterate 3 (exact sd));rintro _ _ ⟨rfl,rfl⟩))<;>(try simp (disch:=omega) only [push_cast,seval,hel,Aaz,IL]))
 | (refine Amz ⟨.inr rfl,[1552,1553],[],_,by decide,rfl,?_⟩;(try simp (disch:=omega) only [push_cast,seval,↓Aoz,↓Alz,↓List.map_cons,↓List.map_nil,hel,Aaz,IL]))))
    all_goals exact ⟨ok,cs',es',fun h=>⟨(hok h).1,fun hq=>by first|exact (hok h).2 trivial|(exact absurd hq (by decide))⟩,hbd,rfl,rfl⟩


abbrev OBe (q:List Ex → Prop):AV → List (List AV) → Prop:=fun r H'=>(∃ cs' es',r=.tup [.agg [.own 0 cs'.length 1,.own 1 es'.length 5],.bool false] ∧ H'=[IL cs',EL true es']) ∨ ∃ cs' es',(vB cs' es'=true ∧ (cs'.length ≤ 60 ∧ es'.length ≤ 8 ∧ exB 4 es') ∧ q es') ∧ r=.tup [.agg [.own 0 cs'.length 1,.own 1 es'.length 5],.bool true] ∧ H'=[IL cs',EL true es']
theorem OBe_of {P:Program} {f:Nat} {args:List AV} {p:Prop} {q:List Ex → Prop} (h:BCall P f args [] (OBd p)) (hq:∀ es:List Ex,(p → 1 ≤ es.length) → q es):BCall P f args [] (OBe q):=h.mono fun r H'=>by
  rintro ⟨ok,cs',es',hok,hbd,h1,h2⟩
  cases ok with
  | false=>exact .inl ⟨cs',es',h1,h2⟩
  | true=>exact .inr ⟨cs',es',⟨(hok rfl).1,hbd,hq _ (hok rfl).2⟩,h1,h2⟩


theorem Igz (cs:List Int) (es:List Ex) (m n:Nat) (k:Int) (nums:List Int) (l:Nat) (hm:cs.length=m) (hn:es.length=n) (hl:nums.length=l) (hv:vB cs es=true) (hk:actK k nums) (h6:k=1 ∨ k=2 ∨ k=3) :
    BCall Tryd.prog 68 [.agg [.rows false (IL cs) m,.rows false (EL false es) n],.agg [.int .i64 k,.rows false (IL nums) l]] [] (OBe fun es=>1 ≤ es.length) :=
  OBe_of (done_ok cs es m n k nums l hm hn hl hv hk (by omega)) fun es h=>h h6
theorem Ifz (cs:List Int) (es:List Ex) (m n:Nat) (k:Int) (nums:List Int) (l:Nat) (hm:cs.length=m) (hn:es.length=n) (hl:nums.length=l) (hv:vB cs es=true) (hk:actK k nums) (h6:¬ (k=1 ∨ k=2 ∨ k=3) ∧ k ≠ 6) :
    BCall Tryd.prog 68 [.agg [.rows false (IL cs) m,.rows false (EL false es) n],.agg [.int .i64 k,.rows false (IL nums) l]] [] (OBe fun _=>True) :=
  OBe_of (done_ok cs es m n k nums l hm hn hl hv hk h6.2) fun _ _=>trivial

end Go.Proofs.YtkpcjppnjmhanaaDoor
namespace Go.Proofs.YtkpcjppnjmhanaaDoor
open VwM Vw Go
variable [SentA]



theorem done6_ok (cs:List Int) (es:List Ex) (m n:Nat) (a:Int) (hm:cs.length=m) (hn:es.length=n) (hv:vB cs es=true) :
    BCall Tryd.prog 68 [.agg [.own 0 m 1,.own 1 n 5],.agg [.int .i64 6,.own 2 1 1]] [IL cs,EL false es,[.int .i64 a]] (fun r H'=>r=.tup [.agg [.own 0 m 1,.own 1 n 5],.bool (opA es a)] ∧ H'=[IL cs,EL false es,[.int .i64 a]]):=by
  subst hm hn
  have hel:=A6z false es
  have hb2:cs.length ≤ 1099511627776 ∧ es.length ≤ 1099511627776:=⟨(vB_x hv).1,(vB_x hv).2.1⟩
  refine A5z (pins:=[0,1,2]) (pin:=3) l68_eq rfl rfl rfl ?_
  (repeat' (first
 | (first|refine Apz ?_|refine Aiz ?_)
 | ((first|refine Aqz ?_|refine Asz (mid:=l68r4a) (post:=l68r4b) Axz (by decide) ?_|refine Asz (mid:=l68r6a) (post:=l68r6b) Axz (by decide) ?_|refine Asz (mid:=l68r8a) (post:=l68r8b) Axz (by decide) ?_|refine Asz (mid:=l68r10a) (post:=l68r10b) Axz (by decide) ?_|refine Asz (mid:=l68r12a) (post:=l68r12b) Axz (by decide) ?_|refine Asz (mid:=l68r14a) (post:=l68r14b) Axz (by decide) ?_|refine Asz (mid:=l68r16a) (post:=l68r16b) Axz (by decide) ?_|refine Asz (mid:=l68r17a) (post:=l68r17b) Axz (by decide) ?_|refine Ahz ?_|refine Ajz ?_|refine Akz ?_);simp (disch:=omega) only [push_cast,seval,l68r0,l68r1,l68r2,l68r3,l68r4a,l68r4b,l68r4,l68r5,l68r6a,l68r6b,l68r6,l68r7,l68r8a,l68r8b,l68r8,l68r9,l68r10a,l68r10b,l68r10,l68r11,l68r12a,l68r12b,l68r12,l68r13,l68r14a,l68r14b,l68r14,l68r15,l68r16a,l68r16b,l68r16,l68r17a,l68r17b,l68r17,hel,Aaz])
 | ((first|refine Acz ?_ ?_|refine Agz ?_ ?_|refine Afz ?_ ?_)<;>intro h<;>(try simp only [h])<;>(try simp only [bitvec_to_nat] at h)<;>(try simp only [h])<;>(first|(exfalso;omega)|(exfalso;simp_all;done)|(simp (disch:=omega) only [push_cast,seval,hel,Aaz])|skip))
 | ((first|refine Arz false ?_|refine Anz false ?_);simp (disch:=omega) only [push_cast,seval,hel,Aaz])
 | ((first|((first|refine Adz (Ecz _ _ _ _ _ ?_ ?_ ?_) ?_|refine Abz (Ecz _ _ _ _ _ ?_ ?_ ?_) ⟨_,_,false,[],[],(fun h=>by cases h),⟨Nat.zero_le _,Nat.zero_le _,fun e he=>by cases he⟩,rfl,rfl⟩ ?_);(iterate 3 (exact sd));rintro _ _ ⟨ok,cs',es',hok,hbd,rfl,rfl⟩)|((first|refine Adz (Eez _ _ _ _ _ _ _ ?_ ?_ ?_) ?_|refine Abz (Eez _ _ _ _ _ _ _ ?_ ?_ ?_) ⟨_,_,false,[],[],(fun h=>by cases h),⟨Nat.zero_le _,Nat.zero_le _,fun e he=>by cases he⟩,rfl,rfl⟩ ?_);(iterate 3 (exact sd));rintro _ _ ⟨ok,cs',es',hok,hbd,rfl,rfl⟩)|((first|refine Adz (Efz _ _ _ _ _ _ _ _ _ _ _ ?_ ?_ ?_) ?_|refine Abz (Efz _ _ _ _ _ _ _ _ _ _ _ ?_ ?_ ?_) ⟨_,_,false,[],[],(fun h=>by cases h),⟨Nat.zero_le _,Nat.zero_le _,fun e he=>by cases he⟩,rfl,rfl⟩ ?_);(iterate 3 (exact sd));rintro _ _ ⟨ok,cs',es',hok,hbd,rfl,rfl⟩)|((first|refine Adz (Eaz _ _ _ _ _ _ ?_ ?_ ?_) ?_|refine Abz (Eaz _ _ _ _ _ _ ?_ ?_ ?_) ⟨_,_,false,[],[],(fun h=>by cases h),⟨Nat.zero_le _,Nat.zero_le _,fun e he=>by cases he⟩,rfl,rfl⟩ ?_);(iterate 3 (exact sd));rintro _ _ ⟨ok,cs',es',hok,hbd,rfl,rfl⟩)|((first|refine Adz (Ebz _ _ _ _ _ _ ?_ ?_ ?_) ?_|refine Abz (Ebz _ _ _ _ _ _ ?_ ?_ ?_) ⟨_,_,false,[],[],(fun h=>by cases h),⟨Nat.zero_le _,Nat.zero_le _,fun e he=>by cases he⟩,rfl,rfl⟩ ?_);(iterate 3 (exact sd));rintro _ _ ⟨ok,cs',es',hok,hbd,rfl,rfl⟩)|((first|refine Adz (Edz _ _ _ _ _ ?_ ?_ ?_) ?_|refine Abz (Edz _ _ _ _ _ ?_ ?_ ?_) ⟨_,_,false,[],[],(fun h=>by cases h),⟨Nat.zero_le _,Nat.zero_le _,fun e he=>by cases he⟩,rfl,rfl⟩ ?_);(iterate 3 (exact sd));rintro _ _ ⟨ok,cs',es',hok,hbd,rfl,rfl⟩)|((first|refine Adz (Aez (Bez _ _ _ _ _ ?_ ?_ ?_)) ?_|refine Abz (Aez (Bez _ _ _ _ _ ?_ ?_ ?_)) ⟨_,_,rfl,rfl⟩ ?_);(iterate 3 (exact sd));rintro _ _ ⟨rfl,rfl⟩))<;>(try simp (disch:=omega) only [push_cast,seval,hel,Aaz]))
 | (refine Amz ⟨.inr rfl,[],[],_,by decide,rfl,?_⟩;(try simp (disch:=omega) only [push_cast,seval,↓Aoz,↓Alz,↓List.map_cons,↓List.map_nil,hel,Aaz]))))
  all_goals skip


abbrev OBa (cs:List Int) (es:List Ex) (nums:List Int) (m n:Nat):AV → List (List AV) → Prop:=fun r H'=>(∃ s,r=.tup [.agg [.own 0 m 1,.own 1 n 5],.str s] ∧ H'=[IL cs,EL false es,IL nums]) ∨ ∃ cs' es' s,vB cs' es'=true ∧ r=.tup [.agg [.own 3 cs'.length 1,.own 4 es'.length 5],.str s] ∧ H'=[IL cs,EL false es,IL nums,IL cs',EL true es']


set_option maxHeartbeats 16000000 in
theorem apply6_ok (cs:List Int) (es:List Ex) (a:Int) (hv:vB cs es=true) :
    BCall Tryd.prog 59 [.agg [.own 0 cs.length 1,.own 1 es.length 5],.agg [.int .i64 6,.own 2 1 1]] [IL cs,EL false es,[.int .i64 a]] (OBa cs es [a] cs.length es.length):=by
  have hel:=A6z false es
  have hbb:=Jqz hv
  refine A5z (pins:=[0,1,2]) (pin:=3) l59_eq rfl rfl rfl ?_
  cases ho:opA es a with
  | false =>
    (repeat' (first
 | (first|refine Apz ?_|refine Aiz ?_)
 | ((first|refine Aqz ?_|refine A2z (mid:=l59r5a) (post:=l59r5b) [64] Axz (by decide) ?_|refine A2z (mid:=l59r7a) (post:=l59r7b) [64] Axz (by decide) ?_|refine Ahz ?_|refine Ajz ?_|refine Akz ?_);simp (disch:=omega) only [push_cast,seval,l59r0,l59r1,l59r2,l59r3,l59r4,l59r5a,l59r5b,l59r5,l59r6,l59r7a,l59r7b,l59r7,l59r8,ho,hel,Aaz])
 | ((first|refine Acz ?_ ?_|refine Agz ?_ ?_|refine Afz ?_ ?_)<;>intro h<;>(try simp only [h])<;>(try simp only [bitvec_to_nat] at h)<;>(try simp only [h])<;>(first|(exfalso;omega)|(exfalso;simp_all;done)|(simp (disch:=omega) only [push_cast,seval,ho,hel,Aaz])|skip))
 | ((first|((with_reducible refine Azz (f:=68) [0,1,2] true ?_);simp (disch:=omega) only [push_cast,seval,ho,hel,Aaz];(refine Gmz (by decide) (done6_ok _ _ _ _ _ ?_ ?_ ?_) (by (simp (disch:=omega) only [push_cast,seval,ho,hel,Aaz])<;>rfl) ?_;(iterate 3 (exact sd));rintro _ _ ⟨rfl,rfl⟩)))<;>(try simp (disch:=omega) only [push_cast,seval,ho,hel,Aaz]))
 | ((first|refine Arz false ?_|refine Anz false ?_);simp (disch:=omega) only [push_cast,seval,ho,hel,Aaz])
 | ((first|((first|refine Adz (Cjz _ _ _ _ _ _ _ ?_ ?_ ?_ ?_) ?_|refine Abz (Cjz _ _ _ _ _ _ _ ?_ ?_ ?_ ?_) ⟨_,_,rfl,rfl⟩ ?_);(iterate 4 (exact sd));rintro _ _ ⟨rfl,rfl⟩)|((first|refine Adz (Aez (D7z _ _ ?_ ?_)) ?_|refine Abz (Aez (D7z _ _ ?_ ?_)) ⟨.str ByteArray.empty,[],⟨ByteArray.empty,Nat.zero_le _,rfl⟩,rfl⟩ ?_);(iterate 2 (exact sd));rintro _ _ ⟨⟨st,hst,rfl⟩,rfl⟩)|((first|refine Adz (Aez (A8z _ ?_)) ?_|refine Abz (Aez (A8z _ ?_)) ⟨.str ByteArray.empty,[],⟨ByteArray.empty,Nat.zero_le _,rfl⟩,rfl⟩ ?_);(exact sd);rintro _ _ ⟨⟨sn,hsn,rfl⟩,rfl⟩)|((first|refine Adz (Aez (Bdz _ ?_)) ?_|refine Abz (Aez (Bdz _ ?_)) ⟨.str ByteArray.empty,[],⟨ByteArray.empty,Nat.zero_le _,rfl⟩,rfl⟩ ?_);(exact sd);rintro _ _ ⟨⟨sn,hsn,rfl⟩,rfl⟩)|((first|refine Adz (Aez (Bjz _ ?_)) ?_|refine Abz (Aez (Bjz _ ?_)) ⟨.str ByteArray.empty,[],⟨ByteArray.empty,Nat.zero_le _,rfl⟩,rfl⟩ ?_);(exact sd);rintro _ _ ⟨⟨sn,hsn,rfl⟩,rfl⟩))<;>(try simp (disch:=omega) only [push_cast,seval,ho,hel,Aaz]))
 | (refine Amz ⟨.inr rfl,[],[],_,by decide,rfl,?_⟩;(try simp (disch:=omega) only [push_cast,seval,↓Aoz,↓Alz,↓List.map_cons,↓List.map_nil,ho,hel,Aaz]))))
    all_goals exact .inl ⟨_,rfl,rfl⟩
  | true =>
    obtain ⟨q,p,b,x,y,rfl,hq,he,hvw⟩:=H5z ho
    have hs:=vB_see hv he
    have hil:q * 5 + 5 ≤ es.length * 5:=by omega
    have h3:=Lgz he
    have hi:=(see_prX hs).1
    have htl:(takesL cs (offs b x y)).length=(offs b x y).length:=takesL_length ..
    have htb:=Ilz (L:=offs b x y) (Dzz.1 (Fmz.1 hv).1).2
    have hq5:(takesL cs (offs b x y)).length ≤ 100 ∧ ∀ v ∈ takesL cs (offs b x y),0 ≤ v ∧ v < 1000:=⟨by omega,fun v hv=>by have:=htb v hv;omega⟩
    have h3s:({ data:={ toList:=[104,97,115] } }:ByteArray).size=3:=rfl
    (repeat' (first
 | (first|refine Apz ?_|refine Aiz ?_)
 | ((first|refine Aqz ?_|refine A2z (mid:=l59r5a) (post:=l59r5b) [64] Axz (by decide) ?_|refine A2z (mid:=l59r7a) (post:=l59r7b) [64] Axz (by decide) ?_|refine Ahz ?_|refine Ajz ?_|refine Akz ?_);simp (disch:=omega) only [push_cast,seval,l59r0,l59r1,l59r2,l59r3,l59r4,l59r5a,l59r5b,l59r5,l59r6,l59r7a,l59r7b,l59r7,l59r8,ho,hel,hil,h3,Aaz])
 | ((first|refine Acz ?_ ?_|refine Agz ?_ ?_|refine Afz ?_ ?_)<;>intro h<;>(try simp only [h])<;>(try simp only [bitvec_to_nat] at h)<;>(try simp only [h])<;>(first|(exfalso;omega)|(exfalso;simp_all;done)|(simp (disch:=omega) only [push_cast,seval,ho,hel,hil,h3,Aaz])|skip))
 | ((first|((with_reducible refine Azz (f:=68) [0,1,2] true ?_);simp (disch:=omega) only [push_cast,seval,ho,hel,hil,h3,Aaz];(refine Gmz (by decide) (done6_ok _ _ _ _ _ ?_ ?_ ?_) (by (simp (disch:=omega) only [push_cast,seval,ho,hel,hil,h3,Aaz])<;>rfl) ?_;(iterate 3 (exact sd));rintro _ _ ⟨rfl,rfl⟩)))<;>(try simp (disch:=omega) only [push_cast,seval,ho,hel,hil,h3,Aaz]))
 | ((first|refine Arz false ?_|refine Anz false ?_);simp (disch:=omega) only [push_cast,seval,ho,hel,hil,h3,Aaz])
 | ((first|((first|refine Adz (Cjz _ _ _ _ _ _ _ ?_ ?_ ?_ ?_) ?_|refine Abz (Aez (Gjz (Cjz _ _ _ _ _ _ _ ?_ ?_ ?_ ?_))) ⟨_,_,rfl,rfl⟩ ?_);(iterate 4 (exact sd));rintro _ _ ⟨rfl,rfl⟩)|((first|refine Adz (Aez (D7z _ _ ?_ ?_)) ?_|refine Abz (Aez (D7z _ _ ?_ ?_)) ⟨.str ByteArray.empty,[],⟨ByteArray.empty,Nat.zero_le _,rfl⟩,rfl⟩ ?_);(iterate 2 (exact sd));rintro _ _ ⟨⟨st,hst,rfl⟩,rfl⟩)|((first|refine Adz (Aez (A8z _ ?_)) ?_|refine Abz (Aez (A8z _ ?_)) ⟨.str ByteArray.empty,[],⟨ByteArray.empty,Nat.zero_le _,rfl⟩,rfl⟩ ?_);(exact sd);rintro _ _ ⟨⟨sn,hsn,rfl⟩,rfl⟩)|((first|refine Adz (Aez (Bdz _ ?_)) ?_|refine Abz (Aez (Bdz _ ?_)) ⟨.str ByteArray.empty,[],⟨ByteArray.empty,Nat.zero_le _,rfl⟩,rfl⟩ ?_);(exact sd);rintro _ _ ⟨⟨sn,hsn,rfl⟩,rfl⟩)|((first|refine Adz (Aez (Bjz _ ?_)) ?_|refine Abz (Aez (Bjz _ ?_)) ⟨.str ByteArray.empty,[],⟨ByteArray.empty,Nat.zero_le _,rfl⟩,rfl⟩ ?_);(exact sd);rintro _ _ ⟨⟨sn,hsn,rfl⟩,rfl⟩))<;>(try simp (disch:=omega) only [push_cast,seval,ho,hel,hil,h3,Aaz]))
 | (refine Amz ⟨.inr rfl,[],[],_,by decide,rfl,?_⟩;(try simp (disch:=omega) only [push_cast,seval,↓Aoz,↓Alz,↓List.map_cons,↓List.map_nil,ho,hel,hil,h3,Aaz]))))
    all_goals exact .inl ⟨_,rfl,rfl⟩




set_option maxHeartbeats 16000000 in
theorem Ijz (cs:List Int) (es:List Ex) (m n:Nat) (k:Int) (nums:List Int) (l:Nat) (hm:cs.length=m) (hn:es.length=n) (hl:nums.length=l) (hv:vB cs es=true) (hk:actK k nums) :
    BCall Tryd.prog 59 [.agg [.own 0 m 1,.own 1 n 5],.agg [.int .i64 k,.own 2 l 1]] [IL cs,EL false es,IL nums] (OBa cs es nums m n):=by
  subst hm hn hl
  by_cases h6:k=6
  · subst h6
    have hk':∃ a,nums=[a]:=by
      rcases hk with h|h|h|h|h|h|h|h
      all_goals first|exact h.2|(exact absurd h.1 (by decide))
    obtain ⟨a,rfl⟩:=hk'
    exact apply6_ok cs es a hv
  have hel:=A6z false es
  have hbb:=Jqz hv
  refine A5z (pins:=[0,1,2]) (pin:=3) l59_eq rfl rfl rfl ?_
  by_cases h13:k=1 ∨ k=2 ∨ k=3
  · have h3s:({ data:={ toList:=[97,116,32] } }:ByteArray).size=3:=rfl
    rcases h13 with rfl|rfl|rfl
    · (repeat' (first
 | (first|refine Apz ?_|refine Aiz ?_)
 | ((first|refine Aqz ?_|refine A2z (mid:=l59r5a) (post:=l59r5b) [64] Axz (by decide) ?_|refine A2z (mid:=l59r7a) (post:=l59r7b) [64] Axz (by decide) ?_|refine Ahz ?_|refine Ajz ?_|refine Akz ?_);simp (disch:=omega) only [push_cast,seval,l59r0,l59r1,l59r2,l59r3,l59r4,l59r5a,l59r5b,l59r5,l59r6,l59r7a,l59r7b,l59r7,l59r8,hel,Aaz])
 | ((first|refine Acz ?_ ?_|refine Agz ?_ ?_|refine Afz ?_ ?_)<;>intro h<;>(try simp only [h])<;>(try simp only [bitvec_to_nat] at h)<;>(try simp only [h])<;>(first|(exfalso;omega)|(exfalso;simp_all;done)|(simp (disch:=omega) only [push_cast,seval,hel,Aaz])|skip))
 | ((first|refine Arz false ?_|refine Anz false ?_);simp (disch:=omega) only [push_cast,seval,hel,Aaz])
 | ((first|(refine Adz (Igz _ _ _ _ _ _ _ ?_ ?_ ?_ ?_ ?_ ?_) ?_;(iterate 6 (exact sd));rintro _ _ (⟨csF,esF',rfl,rfl⟩|⟨cs',es',⟨hvD,hbD,hqD⟩,rfl,rfl⟩))|(refine Adz (Ifz _ _ _ _ _ _ _ ?_ ?_ ?_ ?_ ?_ ?_) ?_;(iterate 6 (exact sd));rintro _ _ (⟨csF,esF',rfl,rfl⟩|⟨cs',es',⟨hvD,hbD,hqD⟩,rfl,rfl⟩))|((first|refine Adz (Cjz _ _ _ _ _ _ _ ?_ ?_ ?_ ?_) ?_|refine Abz (Cjz _ _ _ _ _ _ _ ?_ ?_ ?_ ?_) ⟨_,_,rfl,rfl⟩ ?_);(iterate 4 (exact sd));rintro _ _ ⟨rfl,rfl⟩)|((first|refine Adz (Aez (D7z _ _ ?_ ?_)) ?_|refine Abz (Aez (D7z _ _ ?_ ?_)) ⟨.str ByteArray.empty,[],⟨ByteArray.empty,Nat.zero_le _,rfl⟩,rfl⟩ ?_);(iterate 2 (exact sd));rintro _ _ ⟨⟨st,hst,rfl⟩,rfl⟩)|((first|refine Adz (Aez (A8z _ ?_)) ?_|refine Abz (Aez (A8z _ ?_)) ⟨.str ByteArray.empty,[],⟨ByteArray.empty,Nat.zero_le _,rfl⟩,rfl⟩ ?_);(exact sd);rintro _ _ ⟨⟨sn,hsn,rfl⟩,rfl⟩)|((first|refine Adz (Aez (Bdz _ ?_)) ?_|refine Abz (Aez (Bdz _ ?_)) ⟨.str ByteArray.empty,[],⟨ByteArray.empty,Nat.zero_le _,rfl⟩,rfl⟩ ?_);(exact sd);rintro _ _ ⟨⟨sn,hsn,rfl⟩,rfl⟩)|((first|refine Adz (Aez (Bjz _ ?_)) ?_|refine Abz (Aez (Bjz _ ?_)) ⟨.str ByteArray.empty,[],⟨ByteArray.empty,Nat.zero_le _,rfl⟩,rfl⟩ ?_);(exact sd);rintro _ _ ⟨⟨sn,hsn,rfl⟩,rfl⟩))<;>(try simp (disch:=omega) only [push_cast,seval,hel,Aaz]))))
      all_goals first|((refine Amz ⟨.inr rfl,[176,177],[],_,by decide,rfl,?_⟩;(try simp (disch:=omega) only [push_cast,seval,↓Aoz,↓Alz,↓List.map_cons,↓List.map_nil,hel,Aaz]));exact .inr ⟨_,_,_,hvD,rfl,rfl⟩)|((refine Amz ⟨.inr rfl,[],[],_,by decide,rfl,?_⟩;(try simp (disch:=omega) only [push_cast,seval,↓Aoz,↓Alz,↓List.map_cons,↓List.map_nil,hel,Aaz]));exact .inl ⟨_,rfl,rfl⟩)|skip
    · (repeat' (first
 | (first|refine Apz ?_|refine Aiz ?_)
 | ((first|refine Aqz ?_|refine A2z (mid:=l59r5a) (post:=l59r5b) [64] Axz (by decide) ?_|refine A2z (mid:=l59r7a) (post:=l59r7b) [64] Axz (by decide) ?_|refine Ahz ?_|refine Ajz ?_|refine Akz ?_);simp (disch:=omega) only [push_cast,seval,l59r0,l59r1,l59r2,l59r3,l59r4,l59r5a,l59r5b,l59r5,l59r6,l59r7a,l59r7b,l59r7,l59r8,hel,Aaz])
 | ((first|refine Acz ?_ ?_|refine Agz ?_ ?_|refine Afz ?_ ?_)<;>intro h<;>(try simp only [h])<;>(try simp only [bitvec_to_nat] at h)<;>(try simp only [h])<;>(first|(exfalso;omega)|(exfalso;simp_all;done)|(simp (disch:=omega) only [push_cast,seval,hel,Aaz])|skip))
 | ((first|refine Arz false ?_|refine Anz false ?_);simp (disch:=omega) only [push_cast,seval,hel,Aaz])
 | ((first|(refine Adz (Igz _ _ _ _ _ _ _ ?_ ?_ ?_ ?_ ?_ ?_) ?_;(iterate 6 (exact sd));rintro _ _ (⟨csF,esF',rfl,rfl⟩|⟨cs',es',⟨hvD,hbD,hqD⟩,rfl,rfl⟩))|(refine Adz (Ifz _ _ _ _ _ _ _ ?_ ?_ ?_ ?_ ?_ ?_) ?_;(iterate 6 (exact sd));rintro _ _ (⟨csF,esF',rfl,rfl⟩|⟨cs',es',⟨hvD,hbD,hqD⟩,rfl,rfl⟩))|((first|refine Adz (Cjz _ _ _ _ _ _ _ ?_ ?_ ?_ ?_) ?_|refine Abz (Cjz _ _ _ _ _ _ _ ?_ ?_ ?_ ?_) ⟨_,_,rfl,rfl⟩ ?_);(iterate 4 (exact sd));rintro _ _ ⟨rfl,rfl⟩)|((first|refine Adz (Aez (D7z _ _ ?_ ?_)) ?_|refine Abz (Aez (D7z _ _ ?_ ?_)) ⟨.str ByteArray.empty,[],⟨ByteArray.empty,Nat.zero_le _,rfl⟩,rfl⟩ ?_);(iterate 2 (exact sd));rintro _ _ ⟨⟨st,hst,rfl⟩,rfl⟩)|((first|refine Adz (Aez (A8z _ ?_)) ?_|refine Abz (Aez (A8z _ ?_)) ⟨.str ByteArray.empty,[],⟨ByteArray.empty,Nat.zero_le _,rfl⟩,rfl⟩ ?_);(exact sd);rintro _ _ ⟨⟨sn,hsn,rfl⟩,rfl⟩)|((first|refine Adz (Aez (Bdz _ ?_)) ?_|refine Abz (Aez (Bdz _ ?_)) ⟨.str ByteArray.empty,[],⟨ByteArray.empty,Nat.zero_le _,rfl⟩,rfl⟩ ?_);(exact sd);rintro _ _ ⟨⟨sn,hsn,rfl⟩,rfl⟩)|((first|refine Adz (Aez (Bjz _ ?_)) ?_|refine Abz (Aez (Bjz _ ?_)) ⟨.str ByteArray.empty,[],⟨ByteArray.empty,Nat.zero_le _,rfl⟩,rfl⟩ ?_);(exact sd);rintro _ _ ⟨⟨sn,hsn,rfl⟩,rfl⟩))<;>(try simp (disch:=omega) only [push_cast,seval,hel,Aaz]))))
      all_goals first|((refine Amz ⟨.inr rfl,[176,177],[],_,by decide,rfl,?_⟩;(try simp (disch:=omega) only [push_cast,seval,↓Aoz,↓Alz,↓List.map_cons,↓List.map_nil,hel,Aaz]));exact .inr ⟨_,_,_,hvD,rfl,rfl⟩)|((refine Amz ⟨.inr rfl,[],[],_,by decide,rfl,?_⟩;(try simp (disch:=omega) only [push_cast,seval,↓Aoz,↓Alz,↓List.map_cons,↓List.map_nil,hel,Aaz]));exact .inl ⟨_,rfl,rfl⟩)|skip
    · (repeat' (first
 | (first|refine Apz ?_|refine Aiz ?_)
 | ((first|refine Aqz ?_|refine A2z (mid:=l59r5a) (post:=l59r5b) [64] Axz (by decide) ?_|refine A2z (mid:=l59r7a) (post:=l59r7b) [64] Axz (by decide) ?_|refine Ahz ?_|refine Ajz ?_|refine Akz ?_);simp (disch:=omega) only [push_cast,seval,l59r0,l59r1,l59r2,l59r3,l59r4,l59r5a,l59r5b,l59r5,l59r6,l59r7a,l59r7b,l59r7,l59r8,hel,Aaz])
 | ((first|refine Acz ?_ ?_|refine Agz ?_ ?_|refine Afz ?_ ?_)<;>intro h<;>(try simp only [h])<;>(try simp only [bitvec_to_nat] at h)<;>(try simp only [h])<;>(first|(exfalso;omega)|(exfalso;simp_all;done)|(simp (disch:=omega) only [push_cast,seval,hel,Aaz])|skip))
 | ((first|refine Arz false ?_|refine Anz false ?_);simp (disch:=omega) only [push_cast,seval,hel,Aaz])
 | ((first|(refine Adz (Igz _ _ _ _ _ _ _ ?_ ?_ ?_ ?_ ?_ ?_) ?_;(iterate 6 (exact sd));rintro _ _ (⟨csF,esF',rfl,rfl⟩|⟨cs',es',⟨hvD,hbD,hqD⟩,rfl,rfl⟩))|(refine Adz (Ifz _ _ _ _ _ _ _ ?_ ?_ ?_ ?_ ?_ ?_) ?_;(iterate 6 (exact sd));rintro _ _ (⟨csF,esF',rfl,rfl⟩|⟨cs',es',⟨hvD,hbD,hqD⟩,rfl,rfl⟩))|((first|refine Adz (Cjz _ _ _ _ _ _ _ ?_ ?_ ?_ ?_) ?_|refine Abz (Cjz _ _ _ _ _ _ _ ?_ ?_ ?_ ?_) ⟨_,_,rfl,rfl⟩ ?_);(iterate 4 (exact sd));rintro _ _ ⟨rfl,rfl⟩)|((first|refine Adz (Aez (D7z _ _ ?_ ?_)) ?_|refine Abz (Aez (D7z _ _ ?_ ?_)) ⟨.str ByteArray.empty,[],⟨ByteArray.empty,Nat.zero_le _,rfl⟩,rfl⟩ ?_);(iterate 2 (exact sd));rintro _ _ ⟨⟨st,hst,rfl⟩,rfl⟩)|((first|refine Adz (Aez (A8z _ ?_)) ?_|refine Abz (Aez (A8z _ ?_)) ⟨.str ByteArray.empty,[],⟨ByteArray.empty,Nat.zero_le _,rfl⟩,rfl⟩ ?_);(exact sd);rintro _ _ ⟨⟨sn,hsn,rfl⟩,rfl⟩)|((first|refine Adz (Aez (Bdz _ ?_)) ?_|refine Abz (Aez (Bdz _ ?_)) ⟨.str ByteArray.empty,[],⟨ByteArray.empty,Nat.zero_le _,rfl⟩,rfl⟩ ?_);(exact sd);rintro _ _ ⟨⟨sn,hsn,rfl⟩,rfl⟩)|((first|refine Adz (Aez (Bjz _ ?_)) ?_|refine Abz (Aez (Bjz _ ?_)) ⟨.str ByteArray.empty,[],⟨ByteArray.empty,Nat.zero_le _,rfl⟩,rfl⟩ ?_);(exact sd);rintro _ _ ⟨⟨sn,hsn,rfl⟩,rfl⟩))<;>(try simp (disch:=omega) only [push_cast,seval,hel,Aaz]))))
      all_goals first|((refine Amz ⟨.inr rfl,[176,177],[],_,by decide,rfl,?_⟩;(try simp (disch:=omega) only [push_cast,seval,↓Aoz,↓Alz,↓List.map_cons,↓List.map_nil,hel,Aaz]));exact .inr ⟨_,_,_,hvD,rfl,rfl⟩)|((refine Amz ⟨.inr rfl,[],[],_,by decide,rfl,?_⟩;(try simp (disch:=omega) only [push_cast,seval,↓Aoz,↓Alz,↓List.map_cons,↓List.map_nil,hel,Aaz]));exact .inl ⟨_,rfl,rfl⟩)|skip
  · have h14:¬ (k=1 ∨ k=2 ∨ k=3) ∧ k ≠ 6:=⟨h13,h6⟩
    have n6:(k=6)=False:=eq_false h6
    have n1:(k=1)=False:=eq_false (by omega)
    have n2:(k=2)=False:=eq_false (by omega)
    have n3:(k=3)=False:=eq_false (by omega)
    (repeat' (first
 | (first|refine Apz ?_|refine Aiz ?_)
 | ((first|refine Aqz ?_|refine A2z (mid:=l59r5a) (post:=l59r5b) [64] Axz (by decide) ?_|refine A2z (mid:=l59r7a) (post:=l59r7b) [64] Axz (by decide) ?_|refine Ahz ?_|refine Ajz ?_|refine Akz ?_);simp (disch:=omega) only [push_cast,seval,l59r0,l59r1,l59r2,l59r3,l59r4,l59r5a,l59r5b,l59r5,l59r6,l59r7a,l59r7b,l59r7,l59r8,hel,n6,n1,n2,n3,Aaz])
 | ((first|refine Acz ?_ ?_|refine Agz ?_ ?_|refine Afz ?_ ?_)<;>intro h<;>(try simp only [h])<;>(try simp only [bitvec_to_nat] at h)<;>(try simp only [h])<;>(first|(exfalso;omega)|(exfalso;simp_all;done)|(simp (disch:=omega) only [push_cast,seval,hel,n6,n1,n2,n3,Aaz])|skip))
 | ((first|refine Arz false ?_|refine Anz false ?_);simp (disch:=omega) only [push_cast,seval,hel,n6,n1,n2,n3,Aaz])
 | ((first|(refine Adz (Igz _ _ _ _ _ _ _ ?_ ?_ ?_ ?_ ?_ ?_) ?_;(iterate 6 (exact sd));rintro _ _ (⟨csF,esF',rfl,rfl⟩|⟨cs',es',⟨hvD,hbD,hqD⟩,rfl,rfl⟩))|(refine Adz (Ifz _ _ _ _ _ _ _ ?_ ?_ ?_ ?_ ?_ ?_) ?_;(iterate 6 (exact sd));rintro _ _ (⟨csF,esF',rfl,rfl⟩|⟨cs',es',⟨hvD,hbD,hqD⟩,rfl,rfl⟩))|((first|refine Adz (Cjz _ _ _ _ _ _ _ ?_ ?_ ?_ ?_) ?_|refine Abz (Cjz _ _ _ _ _ _ _ ?_ ?_ ?_ ?_) ⟨_,_,rfl,rfl⟩ ?_);(iterate 4 (exact sd));rintro _ _ ⟨rfl,rfl⟩)|((first|refine Adz (Aez (D7z _ _ ?_ ?_)) ?_|refine Abz (Aez (D7z _ _ ?_ ?_)) ⟨.str ByteArray.empty,[],⟨ByteArray.empty,Nat.zero_le _,rfl⟩,rfl⟩ ?_);(iterate 2 (exact sd));rintro _ _ ⟨⟨st,hst,rfl⟩,rfl⟩)|((first|refine Adz (Aez (A8z _ ?_)) ?_|refine Abz (Aez (A8z _ ?_)) ⟨.str ByteArray.empty,[],⟨ByteArray.empty,Nat.zero_le _,rfl⟩,rfl⟩ ?_);(exact sd);rintro _ _ ⟨⟨sn,hsn,rfl⟩,rfl⟩)|((first|refine Adz (Aez (Bdz _ ?_)) ?_|refine Abz (Aez (Bdz _ ?_)) ⟨.str ByteArray.empty,[],⟨ByteArray.empty,Nat.zero_le _,rfl⟩,rfl⟩ ?_);(exact sd);rintro _ _ ⟨⟨sn,hsn,rfl⟩,rfl⟩)|((first|refine Adz (Aez (Bjz _ ?_)) ?_|refine Abz (Aez (Bjz _ ?_)) ⟨.str ByteArray.empty,[],⟨ByteArray.empty,Nat.zero_le _,rfl⟩,rfl⟩ ?_);(exact sd);rintro _ _ ⟨⟨sn,hsn,rfl⟩,rfl⟩))<;>(try simp (disch:=omega) only [push_cast,seval,hel,n6,n1,n2,n3,Aaz]))))
    all_goals first|((refine Amz ⟨.inr rfl,[176,177],[],_,by decide,rfl,?_⟩;(try simp (disch:=omega) only [push_cast,seval,↓Aoz,↓Alz,↓List.map_cons,↓List.map_nil,hel,Aaz]));exact .inr ⟨_,_,_,hvD,rfl,rfl⟩)|((refine Amz ⟨.inr rfl,[],[],_,by decide,rfl,?_⟩;(try simp (disch:=omega) only [push_cast,seval,↓Aoz,↓Alz,↓List.map_cons,↓List.map_nil,hel,Aaz]));exact .inl ⟨_,rfl,rfl⟩)|skip

end Go.Proofs.YtkpcjppnjmhanaaDoor
