/- Texts of this verifier. -/
import Derived.Test.YtahdlohpncjdbaaGreatDoorCB4
import Derived.Test.YtahdlohpncjdbaaGreatDoorCM1
import Derived.Test.YtahdlohpncjdbaaGreatDoorCW3
set_option linter.unusedSimpArgs false
set_option linter.unusedVariables false
set_option maxRecDepth 4000
set_option maxHeartbeats 4000000
namespace Go.Proofs.YtahdlohpncjdbaaGreatDoor
open VwM Vw Go
set_option linter.unusedSectionVars false
variable [SentA]

/-- Facts of a slice of a dimension,for the walks. -/
theorem cut_facts {b:Int} {sh st:List Int} {j:Nat} {f t w:Int} {hf ht:Bool} (hv:vV b sh st=true) (hj:j < sh.length) (hs:vS f t w hf ht=true) :
    (0 ≤ sh.getD j 0 ∧ sh.getD j 0 ≤ 60) ∧
    vR (pS (sFrom f (sh.getD j 0) w hf) (cutK (sh.getD j 0) f t w hf ht)) (pE (sFrom f (sh.getD j 0) w hf) w (cutK (sh.getD j 0) f t w hf ht)) (pC w (cutK (sh.getD j 0) f t w hf ht))=true ∧
    cntN (pS (sFrom f (sh.getD j 0) w hf) (cutK (sh.getD j 0) f t w hf ht)) (pE (sFrom f (sh.getD j 0) w hf) w (cutK (sh.getD j 0) f t w hf ht)) (pC w (cutK (sh.getD j 0) f t w hf ht))=cutK (sh.getD j 0) f t w hf ht ∧
    (-12000 ≤ pS (sFrom f (sh.getD j 0) w hf) (cutK (sh.getD j 0) f t w hf ht) * st.getD j 0 ∧ pS (sFrom f (sh.getD j 0) w hf) (cutK (sh.getD j 0) f t w hf ht) * st.getD j 0 ≤ 12000) ∧
    (-12000 ≤ pC w (cutK (sh.getD j 0) f t w hf ht) * st.getD j 0 ∧ pC w (cutK (sh.getD j 0) f t w hf ht) * st.getD j 0 ≤ 12000) ∧
    (∀ i:Nat,i < cutK (sh.getD j 0) f t w hf ht → -1000 ≤ sFrom f (sh.getD j 0) w hf + (i:Int) * w ∧ sFrom f (sh.getD j 0) w hf + (i:Int) * w ≤ 1000) ∧
    (cutK (sh.getD j 0) f t w hf ht:Int) ≤ 60:=by
  obtain ⟨h1,h2,h3,-⟩:=vV_spec.1 hv
  have hg:=(Cqz h1).1
  have hn:=Cuz hg hj
  have hw:=Gmz.1 hs
  have hk:=J6z hn hs
  have hin:=fun i hi=>idx_in hn hs (i:=i) hi
  have hst:=Iuz h2 hj
  have hb:∀ i:Nat,i < cutK (sh.getD j 0) f t w hf ht → -100 ≤ sFrom f (sh.getD j 0) w hf + (i:Int) * w ∧ sFrom f (sh.getD j 0) w hf + (i:Int) * w ≤ 100:=fun i hi=>by have:=hin i hi;omega
  have v1:=PR_valid (s:=sFrom f (sh.getD j 0) w hf) hw.2.2.2.1 hw.2.2.1 hb
  have v2:=cntN_PR (s:=sFrom f (sh.getD j 0) w hf) hw.2.2.2.1 hw.2.2.1 hb
  have v3:=D6z.1 v1
  have m1:=mul_bd (p:=100) (q:=60) (x:=pS (sFrom f (sh.getD j 0) w hf) (cutK (sh.getD j 0) f t w hf ht)) (y:=st.getD j 0) (by omega) (by omega)
  have m2:=mul_bd (p:=200) (q:=60) (x:=pC w (cutK (sh.getD j 0) f t w hf ht)) (y:=st.getD j 0) (by omega) (by omega)
  exact ⟨hn,v1,v2,by omega,by omega,fun i hi=>by have:=hb i hi;omega,by omega⟩


set_option maxHeartbeats 16000000 in
theorem scutDim_ok (b:Int) (sh st:List Int) (n m:Nat) (j:Nat) (f t w:Int) (hf ht:Bool) (hn:sh.length=n) (hm:st.length=m) (hb:vV b sh st=true ∧ j < n) (hs:vS f t w hf ht=true) :
    BCall Tryz.prog 37 [.agg [.int .i64 b,.rows false (IL sh) n,.rows false (IL st) m],.int .i64 j,slc f t w hf ht] [] (OV (cutB b sh st j f t w hf ht) (cutSh sh j f t w hf ht) (cutSt sh st j f t w hf ht)):=by
  subst hn hm
  obtain ⟨hv,hj⟩:=hb
  obtain ⟨c1,c2,c3,c4,c5,c6,c7⟩:=cut_facts hv hj hs
  obtain ⟨hok,hl⟩:=F5z hv
  have hl4:=hok.1.1.2
  have hbb:=(vV_spec.1 hv).2.2.1
  have hg:=Iaz hok.1.1 hj hs
  have hle:(sh.length ≤ 1099511627776 ∧ st.length ≤ 1099511627776):=by omega
  have q1:cutK (sh.getD j 0) f t w hf ht ≤ 1000:=by omega
  have hj2:j < st.length:=by omega
  have hsl:(sh.set j (cutK (sh.getD j 0) f t w hf ht:Int)).length=sh.length:=by simp
  have hK:cntN (sFrom f (sh.getD j 0) w hf) (sTo t (sh.getD j 0) w ht) w=cutK (sh.getD j 0) f t w hf ht:=rfl
  refine A4z (pins:=[]) (pin:=0) l37_eq rfl rfl rfl ?_
  by_cases hz:pr (cutSh sh j f t w hf ht)=0
  · have e1:cutB b sh st j f t w hf ht=0:=if_pos hz
    have e2:cutSt sh st j f t w hf ht=List.replicate sh.length 0:=if_pos hz
    rw [e1,e2]
    unfold cutSh at hz hg ⊢
    generalize hkk:cutK (sh.getD j 0) f t w hf ht=k at *
    have hzg:=And.intro hg hz
    by_cases hk1:(k:Int) ≤ 1
    · (repeat' (first
 | (first|refine Ajz ?_|refine Afz ?_)
 | ((first|refine Akz ?_|refine Aqz (mid:=l37r2a) (post:=l37r2b) Ayz (by decide) ?_|refine Aqz (mid:=l37r5a) (post:=l37r5b) Ayz (by decide) ?_|refine Aqz (mid:=l37r6a) (post:=l37r6b) Ayz (by decide) ?_|refine Aez ?_|refine Agz ?_|refine Ahz ?_);simp (disch:=omega) only [push_cast,seval,l37r0,l37r1,l37r2a,l37r2b,l37r2,l37r3,l37r4,l37r5a,l37r5b,l37r5,l37r6a,l37r6b,l37r6,l37r7,l37r8,l37r9,hK,c3,hk1,Azz,List.length_set,List.set_set])
 | ((first|refine Aaz ?_ ?_|refine Adz ?_ ?_|refine Acz ?_ ?_)<;>intro h<;>(try simp only [h])<;>(try simp only [bitvec_to_nat] at h)<;>(try simp only [h])<;>(first|(exfalso;omega)|(exfalso;simp_all;done)|(simp (disch:=omega) only [push_cast,seval,hK,c3,hk1,Azz,List.length_set,List.set_set])|skip))
 | ((first|((with_reducible refine callD_ids (f:=62) [176,177] false ?_);simp (disch:=omega) only [push_cast,seval,hK,c3,hk1,Azz,List.length_set,List.set_set];(refine G6z (id:=176) (id':=177) (by decide) (Fzz _ _ _ _ _ ?_ ?_ ?_) (by (simp (disch:=omega) only [push_cast,seval,hK,c3,hk1,Azz,List.length_set,List.set_set])<;>rfl) (by (simp (disch:=omega) only [push_cast,seval,hK,c3,hk1,Azz,List.length_set,List.set_set])<;>rfl) ?_;(iterate 3 (exact sd));rintro _ _ ⟨rfl,rfl⟩))|((with_reducible refine callD_ids (f:=62) [176,177] false ?_);simp (disch:=omega) only [push_cast,seval,hK,c3,hk1,Azz,List.length_set,List.set_set];(refine G6z (id:=176) (id':=177) (by decide) (Fyz _ _ _ _ _ ?_ ?_ ?_) (by (simp (disch:=omega) only [push_cast,seval,hK,c3,hk1,Azz,List.length_set,List.set_set])<;>rfl) (by (simp (disch:=omega) only [push_cast,seval,hK,c3,hk1,Azz,List.length_set,List.set_set])<;>rfl) ?_;(iterate 3 (exact sd));rintro _ _ ⟨rfl,rfl⟩)))<;>(try simp (disch:=omega) only [push_cast,seval,hK,c3,hk1,Azz,List.length_set,List.set_set]))
 | ((first|refine Amz false ?_|refine Alz false ?_);simp (disch:=omega) only [push_cast,seval,hK,c3,hk1,Azz,List.length_set,List.set_set])
 | ((first|((first|refine call0D (scopyView_ok _ _ _ _ _ ?_ ?_ ?_) ?_|refine qcall0D (BCall.ofP (plainV (scopyView_ok _ _ _ _ _ ?_ ?_ ?_))) ⟨_,_,rfl,rfl⟩ ?_);(iterate 3 (exact sd));rintro _ _ ⟨rfl,rfl⟩)|((first|refine call0D (sindices_ok _ _ _ _ _ _ ?_ ?_) ?_|refine qcall0D (BCall.ofP (plainI (sindices_ok _ _ _ _ _ _ ?_ ?_))) ⟨_,_,rfl,rfl⟩ ?_);(iterate 2 (exact sd));rintro _ _ ⟨rfl,rfl⟩)|((first|refine call0D (BCall.ofP (snormal_ok _ _ _ ?_ ?_)) ?_|refine qcall0D (BCall.ofP (snormal_ok _ _ _ ?_ ?_)) ⟨_,_,rfl,rfl⟩ ?_);(iterate 2 (exact sd));rintro _ _ ⟨rfl,rfl⟩)|((first|refine call0D (BCall.ofP (snormal_ok _ _ _ ?_ ?_)) ?_|refine qcall0D (BCall.ofP (snormal_ok _ _ _ ?_ ?_)) ⟨_,_,rfl,rfl⟩ ?_);(iterate 2 (exact sd));rintro _ _ ⟨rfl,rfl⟩)|((first|refine call0D (BCall.ofP (snormalG_ok _ _ ?_ ?_ ?_)) ?_|refine qcall0D (BCall.ofP (snormalG_ok _ _ ?_ ?_ ?_)) ⟨_,_,rfl,rfl⟩ ?_);(iterate 3 (exact sd));rintro _ _ ⟨rfl,rfl⟩)|((first|refine call0D (snumbers_ok _ _ _ ?_) ?_|refine qcall0D (BCall.ofP (plainI (snumbers_ok _ _ _ ?_))) ⟨_,_,rfl,rfl⟩ ?_);(exact sd);rintro _ _ ⟨rfl,rfl⟩))<;>(try simp (disch:=omega) only [push_cast,seval,hK,c3,hk1,Azz,List.length_set,List.set_set]))
 | (refine Aiz ⟨.inr rfl,[176,960],[],_,by decide,rfl,?_⟩;(try simp (disch:=omega) only [push_cast,seval,↓Apz,↓Anz,↓List.map_cons,↓List.map_nil,hK,c3,hk1,Azz,List.length_set,List.set_set]))))
      all_goals (try (simp [OV];done))
    · (repeat' (first
 | (first|refine Ajz ?_|refine Afz ?_)
 | ((first|refine Akz ?_|refine Aqz (mid:=l37r2a) (post:=l37r2b) Ayz (by decide) ?_|refine Aqz (mid:=l37r5a) (post:=l37r5b) Ayz (by decide) ?_|refine Aqz (mid:=l37r6a) (post:=l37r6b) Ayz (by decide) ?_|refine Aez ?_|refine Agz ?_|refine Ahz ?_);simp (disch:=omega) only [push_cast,seval,l37r0,l37r1,l37r2a,l37r2b,l37r2,l37r3,l37r4,l37r5a,l37r5b,l37r5,l37r6a,l37r6b,l37r6,l37r7,l37r8,l37r9,hK,c3,hk1,Azz,List.length_set,List.set_set])
 | ((first|refine Aaz ?_ ?_|refine Adz ?_ ?_|refine Acz ?_ ?_)<;>intro h<;>(try simp only [h])<;>(try simp only [bitvec_to_nat] at h)<;>(try simp only [h])<;>(first|(exfalso;omega)|(exfalso;simp_all;done)|(simp (disch:=omega) only [push_cast,seval,hK,c3,hk1,Azz,List.length_set,List.set_set])|skip))
 | ((first|((with_reducible refine callD_ids (f:=62) [176,177] false ?_);simp (disch:=omega) only [push_cast,seval,hK,c3,hk1,Azz,List.length_set,List.set_set];(refine G6z (id:=176) (id':=177) (by decide) (Fzz _ _ _ _ _ ?_ ?_ ?_) (by (simp (disch:=omega) only [push_cast,seval,hK,c3,hk1,Azz,List.length_set,List.set_set])<;>rfl) (by (simp (disch:=omega) only [push_cast,seval,hK,c3,hk1,Azz,List.length_set,List.set_set])<;>rfl) ?_;(iterate 3 (exact sd));rintro _ _ ⟨rfl,rfl⟩))|((with_reducible refine callD_ids (f:=62) [176,177] false ?_);simp (disch:=omega) only [push_cast,seval,hK,c3,hk1,Azz,List.length_set,List.set_set];(refine G6z (id:=176) (id':=177) (by decide) (Fyz _ _ _ _ _ ?_ ?_ ?_) (by (simp (disch:=omega) only [push_cast,seval,hK,c3,hk1,Azz,List.length_set,List.set_set])<;>rfl) (by (simp (disch:=omega) only [push_cast,seval,hK,c3,hk1,Azz,List.length_set,List.set_set])<;>rfl) ?_;(iterate 3 (exact sd));rintro _ _ ⟨rfl,rfl⟩)))<;>(try simp (disch:=omega) only [push_cast,seval,hK,c3,hk1,Azz,List.length_set,List.set_set]))
 | ((first|refine Amz false ?_|refine Alz false ?_);simp (disch:=omega) only [push_cast,seval,hK,c3,hk1,Azz,List.length_set,List.set_set])
 | ((first|((first|refine call0D (scopyView_ok _ _ _ _ _ ?_ ?_ ?_) ?_|refine qcall0D (BCall.ofP (plainV (scopyView_ok _ _ _ _ _ ?_ ?_ ?_))) ⟨_,_,rfl,rfl⟩ ?_);(iterate 3 (exact sd));rintro _ _ ⟨rfl,rfl⟩)|((first|refine call0D (sindices_ok _ _ _ _ _ _ ?_ ?_) ?_|refine qcall0D (BCall.ofP (plainI (sindices_ok _ _ _ _ _ _ ?_ ?_))) ⟨_,_,rfl,rfl⟩ ?_);(iterate 2 (exact sd));rintro _ _ ⟨rfl,rfl⟩)|((first|refine call0D (BCall.ofP (snormal_ok _ _ _ ?_ ?_)) ?_|refine qcall0D (BCall.ofP (snormal_ok _ _ _ ?_ ?_)) ⟨_,_,rfl,rfl⟩ ?_);(iterate 2 (exact sd));rintro _ _ ⟨rfl,rfl⟩)|((first|refine call0D (BCall.ofP (snormal_ok _ _ _ ?_ ?_)) ?_|refine qcall0D (BCall.ofP (snormal_ok _ _ _ ?_ ?_)) ⟨_,_,rfl,rfl⟩ ?_);(iterate 2 (exact sd));rintro _ _ ⟨rfl,rfl⟩)|((first|refine call0D (BCall.ofP (snormalG_ok _ _ ?_ ?_ ?_)) ?_|refine qcall0D (BCall.ofP (snormalG_ok _ _ ?_ ?_ ?_)) ⟨_,_,rfl,rfl⟩ ?_);(iterate 3 (exact sd));rintro _ _ ⟨rfl,rfl⟩)|((first|refine call0D (snumbers_ok _ _ _ ?_) ?_|refine qcall0D (BCall.ofP (plainI (snumbers_ok _ _ _ ?_))) ⟨_,_,rfl,rfl⟩ ?_);(exact sd);rintro _ _ ⟨rfl,rfl⟩))<;>(try simp (disch:=omega) only [push_cast,seval,hK,c3,hk1,Azz,List.length_set,List.set_set]))
 | (refine Aiz ⟨.inr rfl,[176,960],[],_,by decide,rfl,?_⟩;(try simp (disch:=omega) only [push_cast,seval,↓Apz,↓Anz,↓List.map_cons,↓List.map_nil,hK,c3,hk1,Azz,List.length_set,List.set_set]))))
      all_goals (try (simp [OV];done))
  · have e1:cutB b sh st j f t w hf ht=b + pS (sFrom f (sh.getD j 0) w hf) (cutK (sh.getD j 0) f t w hf ht) * st.getD j 0:=if_neg hz
    have e2:cutSt sh st j f t w hf ht=st.set j (cutX sh st j f t w hf ht):=if_neg hz
    rw [e1,e2]
    unfold cutSh at hz hg ⊢
    unfold cutX
    generalize hkk:cutK (sh.getD j 0) f t w hf ht=k at *
    have hzg:=And.intro hg hz
    by_cases hk1:(k:Int) ≤ 1
    · (repeat' (first
 | (first|refine Ajz ?_|refine Afz ?_)
 | ((first|refine Akz ?_|refine Aqz (mid:=l37r2a) (post:=l37r2b) Ayz (by decide) ?_|refine Aqz (mid:=l37r5a) (post:=l37r5b) Ayz (by decide) ?_|refine Aqz (mid:=l37r6a) (post:=l37r6b) Ayz (by decide) ?_|refine Aez ?_|refine Agz ?_|refine Ahz ?_);simp (disch:=omega) only [push_cast,seval,l37r0,l37r1,l37r2a,l37r2b,l37r2,l37r3,l37r4,l37r5a,l37r5b,l37r5,l37r6a,l37r6b,l37r6,l37r7,l37r8,l37r9,hK,c3,hk1,Azz,List.length_set,List.set_set,List.length_replicate])
 | ((first|refine Aaz ?_ ?_|refine Adz ?_ ?_|refine Acz ?_ ?_)<;>intro h<;>(try simp only [h])<;>(try simp only [bitvec_to_nat] at h)<;>(try simp only [h])<;>(first|(exfalso;omega)|(exfalso;simp_all;done)|(simp (disch:=omega) only [push_cast,seval,hK,c3,hk1,Azz,List.length_set,List.set_set,List.length_replicate])|skip))
 | ((first|((with_reducible refine callD_ids (f:=62) [176,177] false ?_);simp (disch:=omega) only [push_cast,seval,hK,c3,hk1,Azz,List.length_set,List.set_set,List.length_replicate];(refine G6z (id:=176) (id':=177) (by decide) (Fzz _ _ _ _ _ ?_ ?_ ?_) (by (simp (disch:=omega) only [push_cast,seval,hK,c3,hk1,Azz,List.length_set,List.set_set,List.length_replicate])<;>rfl) (by (simp (disch:=omega) only [push_cast,seval,hK,c3,hk1,Azz,List.length_set,List.set_set,List.length_replicate])<;>rfl) ?_;(iterate 3 (exact sd));rintro _ _ ⟨rfl,rfl⟩))|((with_reducible refine callD_ids (f:=62) [176,177] false ?_);simp (disch:=omega) only [push_cast,seval,hK,c3,hk1,Azz,List.length_set,List.set_set,List.length_replicate];(refine G6z (id:=176) (id':=177) (by decide) (Fyz _ _ _ _ _ ?_ ?_ ?_) (by (simp (disch:=omega) only [push_cast,seval,hK,c3,hk1,Azz,List.length_set,List.set_set,List.length_replicate])<;>rfl) (by (simp (disch:=omega) only [push_cast,seval,hK,c3,hk1,Azz,List.length_set,List.set_set,List.length_replicate])<;>rfl) ?_;(iterate 3 (exact sd));rintro _ _ ⟨rfl,rfl⟩)))<;>(try simp (disch:=omega) only [push_cast,seval,hK,c3,hk1,Azz,List.length_set,List.set_set,List.length_replicate]))
 | ((first|refine Amz false ?_|refine Alz false ?_);simp (disch:=omega) only [push_cast,seval,hK,c3,hk1,Azz,List.length_set,List.set_set,List.length_replicate])
 | ((first|((first|refine call0D (scopyView_ok _ _ _ _ _ ?_ ?_ ?_) ?_|refine qcall0D (BCall.ofP (plainV (scopyView_ok _ _ _ _ _ ?_ ?_ ?_))) ⟨_,_,rfl,rfl⟩ ?_);(iterate 3 (exact sd));rintro _ _ ⟨rfl,rfl⟩)|((first|refine call0D (sindices_ok _ _ _ _ _ _ ?_ ?_) ?_|refine qcall0D (BCall.ofP (plainI (sindices_ok _ _ _ _ _ _ ?_ ?_))) ⟨_,_,rfl,rfl⟩ ?_);(iterate 2 (exact sd));rintro _ _ ⟨rfl,rfl⟩)|((first|refine call0D (BCall.ofP (snormal_ok _ _ _ ?_ ?_)) ?_|refine qcall0D (BCall.ofP (snormal_ok _ _ _ ?_ ?_)) ⟨_,_,rfl,rfl⟩ ?_);(iterate 2 (exact sd));rintro _ _ ⟨rfl,rfl⟩)|((first|refine call0D (BCall.ofP (snormal_ok _ _ _ ?_ ?_)) ?_|refine qcall0D (BCall.ofP (snormal_ok _ _ _ ?_ ?_)) ⟨_,_,rfl,rfl⟩ ?_);(iterate 2 (exact sd));rintro _ _ ⟨rfl,rfl⟩)|((first|refine call0D (BCall.ofP (snormalG_ok _ _ ?_ ?_ ?_)) ?_|refine qcall0D (BCall.ofP (snormalG_ok _ _ ?_ ?_ ?_)) ⟨_,_,rfl,rfl⟩ ?_);(iterate 3 (exact sd));rintro _ _ ⟨rfl,rfl⟩)|((first|refine call0D (snumbers_ok _ _ _ ?_) ?_|refine qcall0D (BCall.ofP (plainI (snumbers_ok _ _ _ ?_))) ⟨_,_,rfl,rfl⟩ ?_);(exact sd);rintro _ _ ⟨rfl,rfl⟩))<;>(try simp (disch:=omega) only [push_cast,seval,hK,c3,hk1,Azz,List.length_set,List.set_set,List.length_replicate]))
 | (refine Aiz ⟨.inr rfl,[176,177],[],_,by decide,rfl,?_⟩;(try simp (disch:=omega) only [push_cast,seval,↓Apz,↓Anz,↓List.map_cons,↓List.map_nil,hK,c3,hk1,Azz,List.length_set,List.set_set,List.length_replicate]))))
      all_goals (try (simp [OV,hk1,hl];done))
    · (repeat' (first
 | (first|refine Ajz ?_|refine Afz ?_)
 | ((first|refine Akz ?_|refine Aqz (mid:=l37r2a) (post:=l37r2b) Ayz (by decide) ?_|refine Aqz (mid:=l37r5a) (post:=l37r5b) Ayz (by decide) ?_|refine Aqz (mid:=l37r6a) (post:=l37r6b) Ayz (by decide) ?_|refine Aez ?_|refine Agz ?_|refine Ahz ?_);simp (disch:=omega) only [push_cast,seval,l37r0,l37r1,l37r2a,l37r2b,l37r2,l37r3,l37r4,l37r5a,l37r5b,l37r5,l37r6a,l37r6b,l37r6,l37r7,l37r8,l37r9,hK,c3,hk1,Azz,List.length_set,List.set_set,List.length_replicate])
 | ((first|refine Aaz ?_ ?_|refine Adz ?_ ?_|refine Acz ?_ ?_)<;>intro h<;>(try simp only [h])<;>(try simp only [bitvec_to_nat] at h)<;>(try simp only [h])<;>(first|(exfalso;omega)|(exfalso;simp_all;done)|(simp (disch:=omega) only [push_cast,seval,hK,c3,hk1,Azz,List.length_set,List.set_set,List.length_replicate])|skip))
 | ((first|((with_reducible refine callD_ids (f:=62) [176,177] false ?_);simp (disch:=omega) only [push_cast,seval,hK,c3,hk1,Azz,List.length_set,List.set_set,List.length_replicate];(refine G6z (id:=176) (id':=177) (by decide) (Fzz _ _ _ _ _ ?_ ?_ ?_) (by (simp (disch:=omega) only [push_cast,seval,hK,c3,hk1,Azz,List.length_set,List.set_set,List.length_replicate])<;>rfl) (by (simp (disch:=omega) only [push_cast,seval,hK,c3,hk1,Azz,List.length_set,List.set_set,List.length_replicate])<;>rfl) ?_;(iterate 3 (exact sd));rintro _ _ ⟨rfl,rfl⟩))|((with_reducible refine callD_ids (f:=62) [176,177] false ?_);simp (disch:=omega) only [push_cast,seval,hK,c3,hk1,Azz,List.length_set,List.set_set,List.length_replicate];(refine G6z (id:=176) (id':=177) (by decide) (Fyz _ _ _ _ _ ?_ ?_ ?_) (by (simp (disch:=omega) only [push_cast,seval,hK,c3,hk1,Azz,List.length_set,List.set_set,List.length_replicate])<;>rfl) (by (simp (disch:=omega) only [push_cast,seval,hK,c3,hk1,Azz,List.length_set,List.set_set,List.length_replicate])<;>rfl) ?_;(iterate 3 (exact sd));rintro _ _ ⟨rfl,rfl⟩)))<;>(try simp (disch:=omega) only [push_cast,seval,hK,c3,hk1,Azz,List.length_set,List.set_set,List.length_replicate]))
 | ((first|refine Amz false ?_|refine Alz false ?_);simp (disch:=omega) only [push_cast,seval,hK,c3,hk1,Azz,List.length_set,List.set_set,List.length_replicate])
 | ((first|((first|refine call0D (scopyView_ok _ _ _ _ _ ?_ ?_ ?_) ?_|refine qcall0D (BCall.ofP (plainV (scopyView_ok _ _ _ _ _ ?_ ?_ ?_))) ⟨_,_,rfl,rfl⟩ ?_);(iterate 3 (exact sd));rintro _ _ ⟨rfl,rfl⟩)|((first|refine call0D (sindices_ok _ _ _ _ _ _ ?_ ?_) ?_|refine qcall0D (BCall.ofP (plainI (sindices_ok _ _ _ _ _ _ ?_ ?_))) ⟨_,_,rfl,rfl⟩ ?_);(iterate 2 (exact sd));rintro _ _ ⟨rfl,rfl⟩)|((first|refine call0D (BCall.ofP (snormal_ok _ _ _ ?_ ?_)) ?_|refine qcall0D (BCall.ofP (snormal_ok _ _ _ ?_ ?_)) ⟨_,_,rfl,rfl⟩ ?_);(iterate 2 (exact sd));rintro _ _ ⟨rfl,rfl⟩)|((first|refine call0D (BCall.ofP (snormal_ok _ _ _ ?_ ?_)) ?_|refine qcall0D (BCall.ofP (snormal_ok _ _ _ ?_ ?_)) ⟨_,_,rfl,rfl⟩ ?_);(iterate 2 (exact sd));rintro _ _ ⟨rfl,rfl⟩)|((first|refine call0D (BCall.ofP (snormalG_ok _ _ ?_ ?_ ?_)) ?_|refine qcall0D (BCall.ofP (snormalG_ok _ _ ?_ ?_ ?_)) ⟨_,_,rfl,rfl⟩ ?_);(iterate 3 (exact sd));rintro _ _ ⟨rfl,rfl⟩)|((first|refine call0D (snumbers_ok _ _ _ ?_) ?_|refine qcall0D (BCall.ofP (plainI (snumbers_ok _ _ _ ?_))) ⟨_,_,rfl,rfl⟩ ?_);(exact sd);rintro _ _ ⟨rfl,rfl⟩))<;>(try simp (disch:=omega) only [push_cast,seval,hK,c3,hk1,Azz,List.length_set,List.set_set,List.length_replicate]))
 | (refine Aiz ⟨.inr rfl,[176,177],[],_,by decide,rfl,?_⟩;(try simp (disch:=omega) only [push_cast,seval,↓Apz,↓Anz,↓List.map_cons,↓List.map_nil,hK,c3,hk1,Azz,List.length_set,List.set_set,List.length_replicate]))))
      all_goals (try (simp [OV,hk1,hl];done))

end Go.Proofs.YtahdlohpncjdbaaGreatDoor
set_option linter.unusedSimpArgs false
set_option linter.unusedVariables false
set_option maxRecDepth 4000
set_option maxHeartbeats 4000000
namespace Go.Proofs.YtahdlohpncjdbaaGreatDoor
open VwM Vw Go
set_option linter.unusedSectionVars false
variable [SentA]

def sdOk (b:Int) (sh st:List Int) (d:Int) (f t w:Int) (hf ht:Bool):Bool :=
  vV b sh st && (decide (0 ≤ d) && decide (d ≤ (sh.length:Int) - 1)) && vS f t w hf ht && vV (cutB b sh st d.toNat f t w hf ht) (cutSh sh d.toNat f t w hf ht) (cutSt sh st d.toNat f t w hf ht)
theorem fls_and {p q:Prop} [Decidable p] [Decidable q] (h:¬ (p ∧ q)):(decide p && decide q)=false:=by
  rw [Bool.eq_false_iff];intro h';simp at h';exact h h'
theorem Jfz {p q:Prop} [Decidable p] [Decidable q] (h:p ∧ q):(decide p && decide q)=true:=by simp [h.1,h.2]


theorem sSliceDim_ok (b:Int) (sh st:List Int) (n m:Nat) (d:Int) (f t w:Int) (hf ht:Bool) (hn:sh.length=n) (hm:st.length=m) (hb:n ≤ 1099511627776 ∧ m ≤ 1099511627776) :
    BCall Tryz.prog 16 [.agg [.int .i64 b,.rows false (IL sh) n,.rows false (IL st) m],.int .i64 d,slc f t w hf ht] [] (MV (sdOk b sh st d f t w hf ht) (cutB b sh st d.toNat f t w hf ht) (cutSh sh d.toNat f t w hf ht) (cutSt sh st d.toNat f t w hf ht)):=by
  subst hn hm
  obtain ⟨hb1,hb2⟩:=hb
  refine A4z (pins:=[]) (pin:=0) l16_eq rfl rfl rfl ?_
  cases hv:vV b sh st with
  | false =>
    have e:sdOk b sh st d f t w hf ht=false:=by simp [sdOk,hv]
    rw [e]
    (repeat' (first
 | (first|refine Ajz ?_|refine Afz ?_)
 | ((first|refine Akz ?_|refine Aez ?_|refine Agz ?_|refine Ahz ?_);simp (disch:=omega) only [push_cast,seval,l16r0,l16r1,l16r2,l16r3,hv])
 | ((first|refine Aaz ?_ ?_|refine Adz ?_ ?_|refine Acz ?_ ?_)<;>intro h<;>(try simp only [h])<;>(try simp only [bitvec_to_nat] at h)<;>(try simp only [h])<;>(first|(exfalso;omega)|(exfalso;simp_all;done)|(simp (disch:=omega) only [push_cast,seval,hv])|skip))
 | ((first|refine Amz false ?_|refine Alz false ?_);simp (disch:=omega) only [push_cast,seval,hv])
 | ((first|((first|refine call0D (BCall.ofP (svalidView_ok _ _ _ _ _ ?_ ?_ ?_)) ?_|refine qcall0D (BCall.ofP (svalidView_ok _ _ _ _ _ ?_ ?_ ?_)) ⟨_,_,rfl,rfl⟩ ?_);(iterate 3 (exact sd));rintro _ _ ⟨rfl,rfl⟩)|((first|refine call0D (BCall.ofP (sisDim_ok _ _ _ _ _ _ ?_ ?_)) ?_|refine qcall0D (BCall.ofP (sisDim_ok _ _ _ _ _ _ ?_ ?_)) ⟨_,_,rfl,rfl⟩ ?_);(iterate 2 (exact sd));rintro _ _ ⟨rfl,rfl⟩)|((first|refine call0D (BCall.ofP (svalidSlice_ok _ _ _ _ _)) ?_|refine qcall0D (BCall.ofP (svalidSlice_ok _ _ _ _ _)) ⟨_,_,rfl,rfl⟩ ?_);rintro _ _ ⟨rfl,rfl⟩)|((first|refine call0D (scutDim_ok _ _ _ _ _ _ _ _ _ _ _ ?_ ?_ ?_ ?_) ?_|refine qcall0D (scutDim_ok _ _ _ _ _ _ _ _ _ _ _ ?_ ?_ ?_ ?_) ⟨_,_,rfl,rfl⟩ ?_);(iterate 4 (exact sd));rintro _ _ ⟨rfl,rfl⟩)|((first|refine call0D (smade_ok _ _ _ _ _ ?_ ?_ ?_) ?_|refine qcall0D (smade_ok _ _ _ _ _ ?_ ?_ ?_) ⟨_,_,rfl,rfl⟩ ?_);(iterate 3 (exact sd));rintro _ _ ⟨rfl,rfl⟩))<;>(try simp (disch:=omega) only [push_cast,seval,hv]))
 | (refine Aiz ⟨.inr rfl,[16000,16016],[(16000,1),(16016,1)],_,by decide,rfl,?_⟩;(try simp (disch:=omega) only [push_cast,seval,↓Apz,↓Anz,↓List.map_cons,↓List.map_nil,hv]))))
    all_goals simp [MV,MVB,MVL]
  | true =>
  by_cases hd:0 ≤ d ∧ d ≤ (sh.length:Int) - 1
  · cases hs:vS f t w hf ht with
    | false =>
      have e:sdOk b sh st d f t w hf ht=false:=by simp [sdOk,hs]
      have hd':=Jfz hd
      rw [e]
      (repeat' (first
 | (first|refine Ajz ?_|refine Afz ?_)
 | ((first|refine Akz ?_|refine Aez ?_|refine Agz ?_|refine Ahz ?_);simp (disch:=omega) only [push_cast,seval,l16r0,l16r1,l16r2,l16r3,hv,hd',hs])
 | ((first|refine Aaz ?_ ?_|refine Adz ?_ ?_|refine Acz ?_ ?_)<;>intro h<;>(try simp only [h])<;>(try simp only [bitvec_to_nat] at h)<;>(try simp only [h])<;>(first|(exfalso;omega)|(exfalso;simp_all;done)|(simp (disch:=omega) only [push_cast,seval,hv,hd',hs])|skip))
 | ((first|refine Amz false ?_|refine Alz false ?_);simp (disch:=omega) only [push_cast,seval,hv,hd',hs])
 | ((first|((first|refine call0D (BCall.ofP (svalidView_ok _ _ _ _ _ ?_ ?_ ?_)) ?_|refine qcall0D (BCall.ofP (svalidView_ok _ _ _ _ _ ?_ ?_ ?_)) ⟨_,_,rfl,rfl⟩ ?_);(iterate 3 (exact sd));rintro _ _ ⟨rfl,rfl⟩)|((first|refine call0D (BCall.ofP (sisDim_ok _ _ _ _ _ _ ?_ ?_)) ?_|refine qcall0D (BCall.ofP (sisDim_ok _ _ _ _ _ _ ?_ ?_)) ⟨_,_,rfl,rfl⟩ ?_);(iterate 2 (exact sd));rintro _ _ ⟨rfl,rfl⟩)|((first|refine call0D (BCall.ofP (svalidSlice_ok _ _ _ _ _)) ?_|refine qcall0D (BCall.ofP (svalidSlice_ok _ _ _ _ _)) ⟨_,_,rfl,rfl⟩ ?_);rintro _ _ ⟨rfl,rfl⟩)|((first|refine call0D (scutDim_ok _ _ _ _ _ _ _ _ _ _ _ ?_ ?_ ?_ ?_) ?_|refine qcall0D (scutDim_ok _ _ _ _ _ _ _ _ _ _ _ ?_ ?_ ?_ ?_) ⟨_,_,rfl,rfl⟩ ?_);(iterate 4 (exact sd));rintro _ _ ⟨rfl,rfl⟩)|((first|refine call0D (smade_ok _ _ _ _ _ ?_ ?_ ?_) ?_|refine qcall0D (smade_ok _ _ _ _ _ ?_ ?_ ?_) ⟨_,_,rfl,rfl⟩ ?_);(iterate 3 (exact sd));rintro _ _ ⟨rfl,rfl⟩))<;>(try simp (disch:=omega) only [push_cast,seval,hv,hd',hs]))
 | (refine Aiz ⟨.inr rfl,[16000,16016],[(16000,1),(16016,1)],_,by decide,rfl,?_⟩;(try simp (disch:=omega) only [push_cast,seval,↓Apz,↓Anz,↓List.map_cons,↓List.map_nil,hv,hd',hs]))))
      all_goals simp [MV,MVB,MVL]
    | true =>
      have hd':=Jfz hd
      obtain ⟨j,rfl⟩:∃ j:Nat,d=j:=⟨d.toNat,by omega⟩
      have hj:j < sh.length:=by omega
      have e:sdOk b sh st j f t w hf ht=vV (cutB b sh st j f t w hf ht) (cutSh sh j f t w hf ht) (cutSt sh st j f t w hf ht):=by simp only [sdOk,hv,hs,hd',Int.toNat_natCast,Bool.true_and]
      rw [e]
      simp only [Int.toNat_natCast]
      have hlen:=(F5z hv).2
      have l1:=B3z sh j f t w hf ht
      have l2:=Eyz hlen j f t w hf ht
      have hq:(cutSh sh j f t w hf ht).length ≤ 1099511627776 ∧ (cutSt sh st j f t w hf ht).length ≤ 1099511627776:=by omega
      (repeat' (first
 | (first|refine Ajz ?_|refine Afz ?_)
 | ((first|refine Akz ?_|refine Aez ?_|refine Agz ?_|refine Ahz ?_);simp (disch:=omega) only [push_cast,seval,l16r0,l16r1,l16r2,l16r3,hv,hd',hs])
 | ((first|refine Aaz ?_ ?_|refine Adz ?_ ?_|refine Acz ?_ ?_)<;>intro h<;>(try simp only [h])<;>(try simp only [bitvec_to_nat] at h)<;>(try simp only [h])<;>(first|(exfalso;omega)|(exfalso;simp_all;done)|(simp (disch:=omega) only [push_cast,seval,hv,hd',hs])|skip))
 | ((first|refine Amz false ?_|refine Alz false ?_);simp (disch:=omega) only [push_cast,seval,hv,hd',hs])
 | ((first|((first|refine call0D (BCall.ofP (svalidView_ok _ _ _ _ _ ?_ ?_ ?_)) ?_|refine qcall0D (BCall.ofP (svalidView_ok _ _ _ _ _ ?_ ?_ ?_)) ⟨_,_,rfl,rfl⟩ ?_);(iterate 3 (exact sd));rintro _ _ ⟨rfl,rfl⟩)|((first|refine call0D (BCall.ofP (sisDim_ok _ _ _ _ _ _ ?_ ?_)) ?_|refine qcall0D (BCall.ofP (sisDim_ok _ _ _ _ _ _ ?_ ?_)) ⟨_,_,rfl,rfl⟩ ?_);(iterate 2 (exact sd));rintro _ _ ⟨rfl,rfl⟩)|((first|refine call0D (BCall.ofP (svalidSlice_ok _ _ _ _ _)) ?_|refine qcall0D (BCall.ofP (svalidSlice_ok _ _ _ _ _)) ⟨_,_,rfl,rfl⟩ ?_);rintro _ _ ⟨rfl,rfl⟩)|((first|refine call0D (scutDim_ok _ _ _ _ _ _ _ _ _ _ _ ?_ ?_ ?_ ?_) ?_|refine qcall0D (scutDim_ok _ _ _ _ _ _ _ _ _ _ _ ?_ ?_ ?_ ?_) ⟨_,_,rfl,rfl⟩ ?_);(iterate 4 (exact sd));rintro _ _ ⟨rfl,rfl⟩)|((first|refine call0D (smade_ok _ _ _ _ _ ?_ ?_ ?_) ?_|refine qcall0D (smade_ok _ _ _ _ _ ?_ ?_ ?_) ⟨_,_,rfl,rfl⟩ ?_);(iterate 3 (exact sd));rintro _ _ ⟨rfl,rfl⟩))<;>(try simp (disch:=omega) only [push_cast,seval,hv,hd',hs]))
 | (refine Aiz ⟨.inr rfl,[432,433],[],_,by decide,rfl,?_⟩;(try simp (disch:=omega) only [push_cast,seval,↓Apz,↓Anz,↓List.map_cons,↓List.map_nil,hv,hd',hs]))))
      all_goals exact ⟨rfl,rfl⟩
  · have hd':=fls_and hd
    have e:sdOk b sh st d f t w hf ht=false:=by simp only [sdOk,hd',Bool.and_false,Bool.false_and]
    rw [e]
    (repeat' (first
 | (first|refine Ajz ?_|refine Afz ?_)
 | ((first|refine Akz ?_|refine Aez ?_|refine Agz ?_|refine Ahz ?_);simp (disch:=omega) only [push_cast,seval,l16r0,l16r1,l16r2,l16r3,hv,hd'])
 | ((first|refine Aaz ?_ ?_|refine Adz ?_ ?_|refine Acz ?_ ?_)<;>intro h<;>(try simp only [h])<;>(try simp only [bitvec_to_nat] at h)<;>(try simp only [h])<;>(first|(exfalso;omega)|(exfalso;simp_all;done)|(simp (disch:=omega) only [push_cast,seval,hv,hd'])|skip))
 | ((first|refine Amz false ?_|refine Alz false ?_);simp (disch:=omega) only [push_cast,seval,hv,hd'])
 | ((first|((first|refine call0D (BCall.ofP (svalidView_ok _ _ _ _ _ ?_ ?_ ?_)) ?_|refine qcall0D (BCall.ofP (svalidView_ok _ _ _ _ _ ?_ ?_ ?_)) ⟨_,_,rfl,rfl⟩ ?_);(iterate 3 (exact sd));rintro _ _ ⟨rfl,rfl⟩)|((first|refine call0D (BCall.ofP (sisDim_ok _ _ _ _ _ _ ?_ ?_)) ?_|refine qcall0D (BCall.ofP (sisDim_ok _ _ _ _ _ _ ?_ ?_)) ⟨_,_,rfl,rfl⟩ ?_);(iterate 2 (exact sd));rintro _ _ ⟨rfl,rfl⟩)|((first|refine call0D (BCall.ofP (svalidSlice_ok _ _ _ _ _)) ?_|refine qcall0D (BCall.ofP (svalidSlice_ok _ _ _ _ _)) ⟨_,_,rfl,rfl⟩ ?_);rintro _ _ ⟨rfl,rfl⟩)|((first|refine call0D (scutDim_ok _ _ _ _ _ _ _ _ _ _ _ ?_ ?_ ?_ ?_) ?_|refine qcall0D (scutDim_ok _ _ _ _ _ _ _ _ _ _ _ ?_ ?_ ?_ ?_) ⟨_,_,rfl,rfl⟩ ?_);(iterate 4 (exact sd));rintro _ _ ⟨rfl,rfl⟩)|((first|refine call0D (smade_ok _ _ _ _ _ ?_ ?_ ?_) ?_|refine qcall0D (smade_ok _ _ _ _ _ ?_ ?_ ?_) ⟨_,_,rfl,rfl⟩ ?_);(iterate 3 (exact sd));rintro _ _ ⟨rfl,rfl⟩))<;>(try simp (disch:=omega) only [push_cast,seval,hv,hd']))
 | (refine Aiz ⟨.inr rfl,[16000,16016],[(16000,1),(16016,1)],_,by decide,rfl,?_⟩;(try simp (disch:=omega) only [push_cast,seval,↓Apz,↓Anz,↓List.map_cons,↓List.map_nil,hv,hd']))))
    all_goals simp [MV,MVB,MVL]


def winSh (sh:List Int) (j:Nat) (s:Int):List Int:=sh.set j (sh.getD j 0 - s + 1) ++ [s]
def winSt (st:List Int) (j:Nat):List Int:=st ++ [st.getD j 0]
def wnOk (b:Int) (sh st:List Int) (d s:Int):Bool :=
  vV b sh st && (decide (0 ≤ d) && decide (d ≤ (sh.length:Int) - 1)) && (decide (1 ≤ s) && decide (s ≤ sh.getD d.toNat 0)) && vV b (winSh sh d.toNat s) (winSt st d.toNat)


def adOk (b:Int) (sh st:List Int) (d:Int):Bool :=
  vV b sh st && (decide (0 ≤ d) && decide (d ≤ (sh.length:Int))) && !decide (sh.length=4) && vV b (ins sh d.toNat 1) (ins st d.toNat 0)

end Go.Proofs.YtahdlohpncjdbaaGreatDoor
set_option linter.unusedSimpArgs false
set_option linter.unusedVariables false
set_option maxRecDepth 4000
set_option maxHeartbeats 4000000
namespace Go.Proofs.YtahdlohpncjdbaaGreatDoor
open VwM Vw Go
set_option linter.unusedSectionVars false
variable [SentA]

set_option maxHeartbeats 8000000 in
theorem Cvz (b:Int) (sh st:List Int) (n m:Nat) (hn:sh.length=n) (hm:st.length=m) (hb:m=n ∧ n ≤ 1000):BCall Tryz.prog 46 [.agg [.int .i64 b,.rows false (IL sh) n,.rows false (IL st) m]] [] (fun r H'=>r=.agg [.int .i64 b,.rows false (IL sh) n,.rows false (IL st) m,.int .i64 0,.int .i64 0,.int .i64 0,.int .i64 0,.own 0 n 2] ∧ H'=[IL (dm sh st)]):=by
  subst hn hm
  obtain ⟨hb1,hb2⟩:=hb
  refine A4z (pins:=[]) (pin:=0) l46_eq rfl rfl rfl ?_
  (repeat' (first
 | (first|refine Ajz ?_|refine Afz ?_)
 | ((first|refine Akz ?_|refine Aqz (mid:=l46r5a) (post:=l46r5b) Ayz (by decide) ?_|refine Aez ?_|refine Agz ?_|refine Ahz ?_);simp (disch:=omega) only [push_cast,seval,l46r0,l46r1,l46r2,l46r3,l46r4,l46r5a,l46r5b,l46r5,l46r6,l46r7])
 | ((first|refine Aaz ?_ ?_|refine Adz ?_ ?_|refine Acz ?_ ?_)<;>intro h<;>(try simp only [h])<;>(try simp only [bitvec_to_nat] at h)<;>(try simp only [h])<;>(first|(exfalso;omega)|(exfalso;simp_all;done)|(simp (disch:=omega) only [push_cast,seval])|skip))
 | (refine Aiz ⟨.inr rfl,[416],[],_,by decide,rfl,?_⟩;(try simp (disch:=omega) only [push_cast,seval,↓Apz,↓Anz,↓List.map_cons,↓List.map_nil]))))
  refine Bcz (fun k:Nat=>if k=0 then mkS [(1,.ref 16 3 0),(2,.ref 32 8 0),(3,.ref 48 8 0),(9,RI sh),(10,.int .i64 sh.length),(11,.int .i64 0)] [(16,[.int .i64 b,RI sh,RI st]),(32,[.int .i64 0,.val (.slice none 0 0),.val (.slice none 0 0),.int .i64 0,.int .i64 0,.int .i64 0,.int .i64 0,.val (.slice none 0 0)]),(48,[.int .i64 b,RI sh,RI st,.int .i64 0,.int .i64 0,.int .i64 0,.int .i64 0,.val (.slice none 0 0)])]
    else mkS [(1,.ref 16 3 0),(2,.ref 32 8 0),(3,.ref 48 8 0),(9,RI sh),(10,.int .i64 sh.length),(11,.int .i64 k)] [(16,[.int .i64 b,RI sh,RI st]),(32,[.int .i64 0,.val (.slice none 0 0),.val (.slice none 0 0),.int .i64 0,.int .i64 0,.int .i64 0,.int .i64 0,.val (.slice none 0 0)]),(48,[.int .i64 b,RI sh,RI st,.int .i64 0,.int .i64 0,.int .i64 0,.int .i64 0,.own 416 k 2]),(416,IL (dm (sh.take k) (st.take k)))])
    (fun k=>k ≤ sh.length) (fun k=>sh.length - k) 0 (Nat.zero_le _) ?_ ?_
  · rw [if_pos rfl]
    (refine Sub.of_lists ?_ ?_ ?_ ?_ ?_<;>simp [Vw.mkS,Vw.lk,Vw.hk,AV.inn,innL,Asz,Arz,Avz,-List.map_set,-List.getD_eq_getElem?_getD])
  · intro k hk
    by_cases hlt:k < sh.length
    · have e1:=dm_take hlt hb1
      have hlt2:k < st.length:=by omega
      by_cases h0:k=0
      · subst h0
        rw [if_pos rfl]
        have hs0:0 < sh.length:=hlt
        have e2:[AV.int .i64 (sh.getD 0 0),AV.int .i64 (st.getD 0 0)]=IL (dm (sh.take (0 + 1)) (st.take (0 + 1))):=by rw [← e1];simp [dm]
        (repeat' (first
 | (first|refine Ajz ?_|refine Afz ?_)
 | ((first|refine Akz ?_|refine Aqz (mid:=l46r5a) (post:=l46r5b) Ayz (by decide) ?_|refine Aez ?_|refine Agz ?_|refine Ahz ?_);simp (disch:=omega) only [push_cast,seval,l46r0,l46r1,l46r2,l46r3,l46r4,l46r5a,l46r5b,l46r5,l46r6,l46r7,Int.natCast_zero])
 | ((first|refine Aaz ?_ ?_|refine Adz ?_ ?_|refine Acz ?_ ?_)<;>intro h<;>(try simp only [h])<;>(try simp only [bitvec_to_nat] at h)<;>(try simp only [h])<;>(first|(exfalso;omega)|(exfalso;simp_all;done)|(simp (disch:=omega) only [push_cast,seval,Int.natCast_zero])|skip))
 | (refine Aiz ⟨.inr rfl,[],[],_,by decide,rfl,?_⟩;(try simp (disch:=omega) only [push_cast,seval,↓Apz,↓Anz,↓List.map_cons,↓List.map_nil,Int.natCast_zero]))))
        refine ⟨0 + 1,by omega,by omega,?_⟩
        rw [if_neg (by omega),← e2]
        (refine Sub.of_lists ?_ ?_ ?_ ?_ ?_<;>simp [Vw.mkS,Vw.lk,Vw.hk,AV.inn,innL,Asz,Arz,Avz,-List.map_set,-List.getD_eq_getElem?_getD])
      · rw [if_neg h0]
        have e3:(dm (sh.take k) (st.take k)).length=k * 2:=by rw [Ccz (by simp;omega)];simp;omega
        generalize hq1:dm (sh.take k) (st.take k)=q1 at *
        (repeat' (first
 | (first|refine Ajz ?_|refine Afz ?_)
 | ((first|refine Akz ?_|refine Aqz (mid:=l46r5a) (post:=l46r5b) Ayz (by decide) ?_|refine Aez ?_|refine Agz ?_|refine Ahz ?_);simp (disch:=omega) only [push_cast,seval,l46r0,l46r1,l46r2,l46r3,l46r4,l46r5a,l46r5b,l46r5,l46r6,l46r7,e3,snoc2])
 | ((first|refine Aaz ?_ ?_|refine Adz ?_ ?_|refine Acz ?_ ?_)<;>intro h<;>(try simp only [h])<;>(try simp only [bitvec_to_nat] at h)<;>(try simp only [h])<;>(first|(exfalso;omega)|(exfalso;simp_all;done)|(simp (disch:=omega) only [push_cast,seval,e3,snoc2])|skip))
 | (refine Aiz ⟨.inr rfl,[],[],_,by decide,rfl,?_⟩;(try simp (disch:=omega) only [push_cast,seval,↓Apz,↓Anz,↓List.map_cons,↓List.map_nil,e3,snoc2]))))
        refine ⟨k + 1,by omega,by omega,?_⟩
        rw [if_neg (by omega),← e1]
        (refine Sub.of_lists ?_ ?_ ?_ ?_ ?_<;>simp [Vw.mkS,Vw.lk,Vw.hk,AV.inn,innL,Asz,Arz,Avz,-List.map_set,-List.getD_eq_getElem?_getD,e3])
    · have hke:k=sh.length:=by omega
      have ht:sh.take k=sh:=List.take_of_length_le (by omega)
      have ht2:st.take k=st:=List.take_of_length_le (by omega)
      by_cases h0:k=0
      · subst h0
        rw [if_pos rfl]
        have hL:(sh.length:Int)=0:=by omega
        have hLn:sh.length=0:=by omega
        clear ht ht2 hk hlt hke
        (repeat' (first
 | (first|refine Ajz ?_|refine Afz ?_)
 | ((first|refine Akz ?_|refine Aqz (mid:=l46r5a) (post:=l46r5b) Ayz (by decide) ?_|refine Aez ?_|refine Agz ?_|refine Ahz ?_);simp (disch:=omega) only [push_cast,seval,l46r0,l46r1,l46r2,l46r3,l46r4,l46r5a,l46r5b,l46r5,l46r6,l46r7,hL])
 | ((first|refine Aaz ?_ ?_|refine Adz ?_ ?_|refine Acz ?_ ?_)<;>intro h<;>(try simp only [h])<;>(try simp only [bitvec_to_nat] at h)<;>(try simp only [h])<;>(first|(exfalso;omega)|(exfalso;simp_all;done)|(simp (disch:=omega) only [push_cast,seval,hL])|skip))
 | (refine Aiz ⟨.inr rfl,[16000],[(16000,2)],_,by decide,rfl,?_⟩;(try simp (disch:=omega) only [push_cast,seval,↓Apz,↓Anz,↓List.map_cons,↓List.map_nil,hL]))))
        have ho:sh=[]:=List.length_eq_zero_iff.1 hLn
        have ho2:st=[]:=List.length_eq_zero_iff.1 (by omega)
        all_goals simp [ho,ho2,dm]
      · rw [if_neg h0,ht,ht2]
        (repeat' (first
 | (first|refine Ajz ?_|refine Afz ?_)
 | ((first|refine Akz ?_|refine Aqz (mid:=l46r5a) (post:=l46r5b) Ayz (by decide) ?_|refine Aez ?_|refine Agz ?_|refine Ahz ?_);simp (disch:=omega) only [push_cast,seval,l46r0,l46r1,l46r2,l46r3,l46r4,l46r5a,l46r5b,l46r5,l46r6,l46r7,hke])
 | ((first|refine Aaz ?_ ?_|refine Adz ?_ ?_|refine Acz ?_ ?_)<;>intro h<;>(try simp only [h])<;>(try simp only [bitvec_to_nat] at h)<;>(try simp only [h])<;>(first|(exfalso;omega)|(exfalso;simp_all;done)|(simp (disch:=omega) only [push_cast,seval,hke])|skip))
 | (refine Aiz ⟨.inr rfl,[416],[],_,by decide,rfl,?_⟩;(try simp (disch:=omega) only [push_cast,seval,↓Apz,↓Anz,↓List.map_cons,↓List.map_nil,hke]))))
        all_goals simp


set_option maxHeartbeats 8000000 in
theorem partview_ok (b:Int) (sh st:List Int) (f:Nat → Int) (D E:List Int) (n m k:Nat) (hm:st.length=m) (hk:E.length=D.length ∧ D.length=k) (hb:(m ≤ 4 ∧ (-1000000 ≤ b ∧ b ≤ 1000000) ∧ ∀ i,i < m → (-60 ≤ f i ∧ f i ≤ 60) ∧ -12960000 ≤ st.getD i 0 ∧ st.getD i 0 ≤ 12960000) ∧ k ≤ 1000) :
    BCall Tryz.prog 74 [.agg [.int .i64 b,.rows false (IL sh) n,.rows false (IL st) m,.int .i64 (f 0),.int .i64 (f 1),.int .i64 (f 2),.int .i64 (f 3),.rows false (IL (dm D E)) k]] [] (OV (b + dot f st m) D E):=by
  obtain ⟨hk1,hk2⟩:=hk
  subst hm hk2
  obtain ⟨hb1,hb2⟩:=hb
  have eF:[AV.int .i64 (f 0),.int .i64 (f 1),.int .i64 (f 2),.int .i64 (f 3)]=IL (pad4 f):=rfl
  have hD:=Ccz hk1
  refine A4z (pins:=[]) (pin:=0) l74_eq rfl rfl rfl ?_
  (repeat' (first
 | (first|refine Ajz ?_|refine Afz ?_)
 | ((first|refine Akz ?_|refine Aez ?_|refine Agz ?_|refine Ahz ?_);simp (disch:=omega) only [push_cast,seval,l74r0,l74r1,l74r2,l74r3,l74r4,l74r5,l74r6,l74r7,l74r8,eF])
 | ((first|refine Aaz ?_ ?_|refine Adz ?_ ?_|refine Acz ?_ ?_)<;>intro h<;>(try simp only [h])<;>(try simp only [bitvec_to_nat] at h)<;>(try simp only [h])<;>(first|(exfalso;omega)|(exfalso;simp_all;done)|(simp (disch:=omega) only [push_cast,seval,eF])|skip))
 | ((first|refine Amz false ?_|refine Alz false ?_);simp (disch:=omega) only [push_cast,seval,eF])
 | ((first|((first|refine call0D (BCall.ofP (Dxz _ _ _ _ _ _ ?_ ?_)) ?_|refine qcall0D (BCall.ofP (Dxz _ _ _ _ _ _ ?_ ?_)) ⟨_,_,rfl,rfl⟩ ?_);(iterate 2 (exact sd));rintro _ _ ⟨rfl,rfl⟩))<;>(try simp (disch:=omega) only [push_cast,seval,eF]))
 | (refine Aiz ⟨.inr rfl,[384,496],[],_,by decide,rfl,?_⟩;(try simp (disch:=omega) only [push_cast,seval,↓Apz,↓Anz,↓List.map_cons,↓List.map_nil,eF]))))
  generalize hB:b + dot f st st.length=B
  refine Bcz (fun j:Nat=>if j=0 then mkS [(2,.ref 32 3 0),(3,.ref 48 3 0),(13,.rows false (IL (dm D E)) D.length),(14,.int .i64 D.length),(15,.int .i64 0)] [(32,[.int .i64 0,.val (.slice none 0 0),.val (.slice none 0 0)]),(48,[.int .i64 B,.val (.slice none 0 0),.val (.slice none 0 0)])]
    else mkS [(2,.ref 32 3 0),(3,.ref 48 3 0),(13,.rows false (IL (dm D E)) D.length),(14,.int .i64 D.length),(15,.int .i64 j)] [(32,[.int .i64 0,.val (.slice none 0 0),.val (.slice none 0 0)]),(48,[.int .i64 B,.own 384 j 1,.own 496 j 1]),(384,IL (D.take j)),(496,IL (E.take j))])
    (fun j=>j ≤ D.length) (fun j=>D.length - j) 0 (Nat.zero_le _) ?_ ?_
  · rw [if_pos rfl]
    (refine Sub.of_lists ?_ ?_ ?_ ?_ ?_<;>simp [Vw.mkS,Vw.lk,Vw.hk,AV.inn,innL,Asz,Arz,Avz,-List.map_set,-List.getD_eq_getElem?_getD])
  · intro j hj
    by_cases hlt:j < D.length
    · have g1:=dm_even hlt hk1
      have g2:=dm_odd hlt hk1
      have s1:=Ckz D j hlt
      have s2:=Ckz E j (by omega)
      have hq:j * 2 + 2 ≤ (dm D E).length:=by omega
      have hq2:(dm D E).length=D.length * 2:=hD
      generalize dm D E=L at *
      by_cases h0:j=0
      · subst h0
        rw [if_pos rfl]
        have hs0:0 < D.length:=hlt
        simp only [Nat.zero_mul,Nat.zero_add] at g1 g2 hq
        (repeat' (first
 | (first|refine Ajz ?_|refine Afz ?_)
 | ((first|refine Akz ?_|refine Aez ?_|refine Agz ?_|refine Ahz ?_);simp (disch:=omega) only [push_cast,seval,l74r0,l74r1,l74r2,l74r3,l74r4,l74r5,l74r6,l74r7,l74r8,Int.natCast_zero,g1,g2,Nat.zero_mul])
 | ((first|refine Aaz ?_ ?_|refine Adz ?_ ?_|refine Acz ?_ ?_)<;>intro h<;>(try simp only [h])<;>(try simp only [bitvec_to_nat] at h)<;>(try simp only [h])<;>(first|(exfalso;omega)|(exfalso;simp_all;done)|(simp (disch:=omega) only [push_cast,seval,Int.natCast_zero,g1,g2,Nat.zero_mul])|skip))
 | ((first|refine Amz false ?_|refine Alz false ?_);simp (disch:=omega) only [push_cast,seval,Int.natCast_zero,g1,g2,Nat.zero_mul])
 | ((first|((first|refine call0D (BCall.ofP (Dxz _ _ _ _ _ _ ?_ ?_)) ?_|refine qcall0D (BCall.ofP (Dxz _ _ _ _ _ _ ?_ ?_)) ⟨_,_,rfl,rfl⟩ ?_);(iterate 2 (exact sd));rintro _ _ ⟨rfl,rfl⟩))<;>(try simp (disch:=omega) only [push_cast,seval,Int.natCast_zero,g1,g2,Nat.zero_mul]))
 | (refine Aiz ⟨.inr rfl,[],[],_,by decide,rfl,?_⟩;(try simp (disch:=omega) only [push_cast,seval,↓Apz,↓Anz,↓List.map_cons,↓List.map_nil,Int.natCast_zero,g1,g2,Nat.zero_mul]))))
        refine ⟨0 + 1,by omega,by omega,?_⟩
        rw [if_neg (by omega),s1,s2]
        simp only [List.take_zero]
        (refine Sub.of_lists ?_ ?_ ?_ ?_ ?_<;>simp [Vw.mkS,Vw.lk,Vw.hk,AV.inn,innL,Asz,Arz,Avz,-List.map_set,-List.getD_eq_getElem?_getD])
      · rw [if_neg h0]
        have e3:(D.take j).length=j:=by simp;omega
        have e4:(E.take j).length=j:=by simp;omega
        generalize D.take j=q1 at *
        generalize E.take j=q2 at *
        (repeat' (first
 | (first|refine Ajz ?_|refine Afz ?_)
 | ((first|refine Akz ?_|refine Aez ?_|refine Agz ?_|refine Ahz ?_);simp (disch:=omega) only [push_cast,seval,l74r0,l74r1,l74r2,l74r3,l74r4,l74r5,l74r6,l74r7,l74r8,g1,g2,e3,e4])
 | ((first|refine Aaz ?_ ?_|refine Adz ?_ ?_|refine Acz ?_ ?_)<;>intro h<;>(try simp only [h])<;>(try simp only [bitvec_to_nat] at h)<;>(try simp only [h])<;>(first|(exfalso;omega)|(exfalso;simp_all;done)|(simp (disch:=omega) only [push_cast,seval,g1,g2,e3,e4])|skip))
 | ((first|refine Amz false ?_|refine Alz false ?_);simp (disch:=omega) only [push_cast,seval,g1,g2,e3,e4])
 | ((first|((first|refine call0D (BCall.ofP (Dxz _ _ _ _ _ _ ?_ ?_)) ?_|refine qcall0D (BCall.ofP (Dxz _ _ _ _ _ _ ?_ ?_)) ⟨_,_,rfl,rfl⟩ ?_);(iterate 2 (exact sd));rintro _ _ ⟨rfl,rfl⟩))<;>(try simp (disch:=omega) only [push_cast,seval,g1,g2,e3,e4]))
 | (refine Aiz ⟨.inr rfl,[],[],_,by decide,rfl,?_⟩;(try simp (disch:=omega) only [push_cast,seval,↓Apz,↓Anz,↓List.map_cons,↓List.map_nil,g1,g2,e3,e4]))))
        refine ⟨j + 1,by omega,by omega,?_⟩
        rw [if_neg (by omega),s1,s2]
        (refine Sub.of_lists ?_ ?_ ?_ ?_ ?_<;>simp [Vw.mkS,Vw.lk,Vw.hk,AV.inn,innL,Asz,Arz,Avz,-List.map_set,-List.getD_eq_getElem?_getD,e3,e4])
    · have hke:j=D.length:=by omega
      have ht:D.take j=D:=List.take_of_length_le (by omega)
      have ht2:E.take j=E:=List.take_of_length_le (by omega)
      by_cases h0:j=0
      · subst h0
        rw [if_pos rfl]
        have hL:(D.length:Int)=0:=by omega
        have hLn:D.length=0:=by omega
        clear ht ht2 hj hlt hke
        (repeat' (first
 | (first|refine Ajz ?_|refine Afz ?_)
 | ((first|refine Akz ?_|refine Aez ?_|refine Agz ?_|refine Ahz ?_);simp (disch:=omega) only [push_cast,seval,l74r0,l74r1,l74r2,l74r3,l74r4,l74r5,l74r6,l74r7,l74r8,hL])
 | ((first|refine Aaz ?_ ?_|refine Adz ?_ ?_|refine Acz ?_ ?_)<;>intro h<;>(try simp only [h])<;>(try simp only [bitvec_to_nat] at h)<;>(try simp only [h])<;>(first|(exfalso;omega)|(exfalso;simp_all;done)|(simp (disch:=omega) only [push_cast,seval,hL])|skip))
 | ((first|refine Amz false ?_|refine Alz false ?_);simp (disch:=omega) only [push_cast,seval,hL])
 | ((first|((first|refine call0D (BCall.ofP (Dxz _ _ _ _ _ _ ?_ ?_)) ?_|refine qcall0D (BCall.ofP (Dxz _ _ _ _ _ _ ?_ ?_)) ⟨_,_,rfl,rfl⟩ ?_);(iterate 2 (exact sd));rintro _ _ ⟨rfl,rfl⟩))<;>(try simp (disch:=omega) only [push_cast,seval,hL]))
 | (refine Aiz ⟨.inr rfl,[16000,16016],[(16000,1),(16016,1)],_,by decide,rfl,?_⟩;(try simp (disch:=omega) only [push_cast,seval,↓Apz,↓Anz,↓List.map_cons,↓List.map_nil,hL]))))
        have ho:D=[]:=List.length_eq_zero_iff.1 hLn
        have ho2:E=[]:=List.length_eq_zero_iff.1 (by omega)
        all_goals simp [OV,ho,ho2]
      · rw [if_neg h0,ht,ht2]
        have hEl:E.length=j:=by omega
        (repeat' (first
 | (first|refine Ajz ?_|refine Afz ?_)
 | ((first|refine Akz ?_|refine Aez ?_|refine Agz ?_|refine Ahz ?_);simp (disch:=omega) only [push_cast,seval,l74r0,l74r1,l74r2,l74r3,l74r4,l74r5,l74r6,l74r7,l74r8,hke,hEl])
 | ((first|refine Aaz ?_ ?_|refine Adz ?_ ?_|refine Acz ?_ ?_)<;>intro h<;>(try simp only [h])<;>(try simp only [bitvec_to_nat] at h)<;>(try simp only [h])<;>(first|(exfalso;omega)|(exfalso;simp_all;done)|(simp (disch:=omega) only [push_cast,seval,hke,hEl])|skip))
 | ((first|refine Amz false ?_|refine Alz false ?_);simp (disch:=omega) only [push_cast,seval,hke,hEl])
 | ((first|((first|refine call0D (BCall.ofP (Dxz _ _ _ _ _ _ ?_ ?_)) ?_|refine qcall0D (BCall.ofP (Dxz _ _ _ _ _ _ ?_ ?_)) ⟨_,_,rfl,rfl⟩ ?_);(iterate 2 (exact sd));rintro _ _ ⟨rfl,rfl⟩))<;>(try simp (disch:=omega) only [push_cast,seval,hke,hEl]))
 | (refine Aiz ⟨.inr rfl,[384,496],[],_,by decide,rfl,?_⟩;(try simp (disch:=omega) only [push_cast,seval,↓Apz,↓Anz,↓List.map_cons,↓List.map_nil,hke,hEl]))))
        all_goals simp [OV,hk1]
theorem Dkz (b:Int) (sh st:List Int) (p0 p1 p2 p3:Int) (D E:List Int) (n m k:Nat) (hm:st.length=m) (hk:E.length=D.length ∧ D.length=k) (hb:(m ≤ 4 ∧ (-1000000 ≤ b ∧ b ≤ 1000000) ∧ ∀ i,i < m → (-60 ≤ at4 p0 p1 p2 p3 i ∧ at4 p0 p1 p2 p3 i ≤ 60) ∧ -12960000 ≤ st.getD i 0 ∧ st.getD i 0 ≤ 12960000) ∧ k ≤ 1000) :
    BCall Tryz.prog 74 [.agg [.int .i64 b,.rows false (IL sh) n,.rows false (IL st) m,.int .i64 p0,.int .i64 p1,.int .i64 p2,.int .i64 p3,.rows false (IL (dm D E)) k]] [] (OV (b + dot (at4 p0 p1 p2 p3) st m) D E) :=
  partview_ok b sh st (at4 p0 p1 p2 p3) D E n m k hm hk hb


end Go.Proofs.YtahdlohpncjdbaaGreatDoor
