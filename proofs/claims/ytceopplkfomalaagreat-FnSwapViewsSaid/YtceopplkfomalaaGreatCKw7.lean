import Derived.Test.YtceopplkfomalaaGreatCKw9
import Derived.Test.YtceopplkfomalaaGreatCM1
import Derived.Test.YtceopplkfomalaaGreatCW3
set_option linter.unusedSimpArgs false
set_option linter.unusedVariables false
set_option maxRecDepth 4000
set_option maxHeartbeats 4000000
namespace Go.Proofs.YtceopplkfomalaaGreat
open VwM Vw Go

theorem sw_mvl {v:Bool} {l:List Int} {n:Nat} (h:v=true → l.length ≤ n):(MVL v l).length ≤ n:=by
  cases v with
  | true=>exact h rfl
  | false=>exact Nat.zero_le _
def swB (mem:List Int) (b:Int) (sh st:List Int) (b':Int) (sh' st':List Int):Bool:=twoB mem b sh st b' sh' st' && (!doB b sh st b' sh' st' && (oneB b sh st && oneB b' sh' st'))
def swL (mem L L':List Int):List Int:=putL (putL mem L (takesL mem L')) L' (takesL mem L)
theorem sw_getD {mem:List Int} (hm:∀ x ∈ mem,0 ≤ x ∧ x ≤ 255) (j:Nat):0 ≤ mem.getD j 0 ∧ mem.getD j 0 ≤ 255:=by
  by_cases hl:j < mem.length
  · exact hm _ (getD_mem hl)
  · rw [List.getD,List.getElem?_eq_none (Nat.le_of_not_lt hl)];simp
theorem sw_byte {mem cells vals:List Int} (hm:∀ x ∈ mem,0 ≤ x ∧ x ≤ 255) (hv:∀ x ∈ vals,0 ≤ x ∧ x ≤ 255):∀ k,∀ x ∈ putK mem cells vals k,0 ≤ x ∧ x ≤ 255
  | 0,x,hx=>hm x hx
  | k + 1,x,hx=>by
    simp only [putK] at hx
    rcases List.mem_or_eq_of_mem_set hx with h1|h1
    · exact sw_byte hm hv k x h1
    · subst h1;exact sw_getD hv k
theorem sw_takes {mem at_:List Int} (hm:∀ x ∈ mem,0 ≤ x ∧ x ≤ 255):∀ x ∈ takesL mem at_,0 ≤ x ∧ x ≤ 255:=by
  intro x hx
  simp only [takesL,List.mem_map] at hx
  obtain ⟨i,_,rfl⟩:=hx
  exact sw_getD hm _
theorem sw_see {mem cells vals:List Int} {b:Int} {sh st:List Int} (h:seeB mem b sh st=true) (hv:∀ x ∈ vals,0 ≤ x ∧ x ≤ 255):seeB (putL mem cells vals) b sh st=true:=by
  obtain ⟨g1,g2,g3⟩:=seeB_spec.1 h
  obtain ⟨m1,m2⟩:=vMem_spec.1 g1
  refine seeB_spec.2 ⟨vMem_spec.2 ⟨by rw [putL_length];exact m1,sw_byte m2 hv _⟩,g2,?_⟩
  intro x hx
  rw [putL_length]
  exact g3 x hx
theorem sw_facts {mem:List Int} {b:Int} {sh st:List Int} {b':Int} {sh' st':List Int} (h:twoB mem b sh st b' sh' st'=true) :
    (doB b sh st b' sh' st'=decide (0 < (bothL (offs b sh st) (offs b' sh' st')).length) ∧ oneB b sh st=decide (offs b sh st).Nodup ∧ oneB b' sh' st'=decide (offs b' sh' st').Nodup) ∧
    ((offs b sh st).length ≤ 60 ∧ (offs b' sh' st').length ≤ 60 ∧ mem.length ≤ 60) ∧
    (seeB mem b sh st=true ∧ ((takesL mem (offs b' sh' st')).length:Int)=pr sh) ∧
    (seeB (putL mem (offs b sh st) (takesL mem (offs b' sh' st'))) b' sh' st'=true ∧ ((takesL mem (offs b sh st)).length:Int)=pr sh'):=by
  obtain ⟨h1,h2,h3⟩:=two_facts h
  obtain ⟨f1,f2,f3,f4,f5,f6⟩:=see_facts h1
  obtain ⟨g1,g2,_,_,_,_⟩:=see_facts h2
  obtain ⟨v1,v2,v3⟩:=seeB_spec.1 h1
  obtain ⟨w1,w2,w3⟩:=seeB_spec.1 h2
  have o1:=offs_length b sh st
  have o2:=offs_length b' sh' st'
  have p1:=f1.1.2
  have p2:=g1.1.2
  have p0:=f1.1.1
  subst h3
  refine ⟨⟨?_,by unfold oneB;rw [v2,Bool.true_and],by unfold oneB;rw [w2,Bool.true_and]⟩,⟨by omega,by omega,f6⟩,⟨h1,by rw [takesL_length];omega⟩,sw_see h2 (sw_takes (vMem_spec.1 v1).2),by rw [takesL_length];omega⟩
  unfold doB ovB
  rw [v2,w2]
  rfl


set_option maxHeartbeats 16000000 in
theorem sSw_ok (mem:List Int) (b:Int) (sh st:List Int) (b':Int) (sh' st':List Int) (q n m n' m':Nat) (hq:mem.length=q) (hn:sh.length=n) (hm:st.length=m) (hn':sh'.length=n') (hm':st'.length=m') (hb:(q ≤ 1099511627776 ∧ n ≤ 1099511627776 ∧ m ≤ 1099511627776) ∧ n' ≤ 1099511627776 ∧ m' ≤ 1099511627776):BCall Tryz.prog 20 [.rows false (IL mem) q,.agg [.int .i64 b,.rows false (IL sh) n,.rows false (IL st) m],.agg [.int .i64 b',.rows false (IL sh') n',.rows false (IL st') m']] [] (TB (swB mem b sh st b' sh' st') (swL mem (offs b sh st) (offs b' sh' st'))):=by
  subst hq hn hm hn' hm'
  obtain ⟨⟨hb0,hb1,hb2⟩,hb3,hb4⟩:=hb
  have q0:(mem.length ≤ 1099511627776 ∧ sh.length ≤ 1099511627776 ∧ st.length ≤ 1099511627776) ∧ sh'.length ≤ 1099511627776 ∧ st'.length ≤ 1099511627776:=⟨⟨hb0,hb1,hb2⟩,hb3,hb4⟩
  have q1:(sh.length ≤ 1099511627776 ∧ st.length ≤ 1099511627776) ∧ sh'.length ≤ 1099511627776 ∧ st'.length ≤ 1099511627776:=by omega
  have q2:sh.length ≤ 1099511627776 ∧ st.length ≤ 1099511627776:=by omega
  have q3:sh'.length ≤ 1099511627776 ∧ st'.length ≤ 1099511627776:=by omega
  refine bcall_of (pins:=[]) (pin:=0) l20_eq rfl rfl rfl ?_
  cases h:twoB mem b sh st b' sh' st' with
  | false =>
    have hs:swB mem b sh st b' sh' st'=false:=by unfold swB;rw [h];rfl
    rw [hs]
    (repeat' (first
 | (first|refine awp_seq ?_|refine awp_block ?_)
 | ((first|refine awp_reg ?_|refine awp_draw (mid:=l20r1a) (post:=l20r1b) mixed (by decide) ?_|refine awp_draw (mid:=l20r3a) (post:=l20r3b) mixed (by decide) ?_|refine awp_condB ?_|refine awp_skip ?_|refine awp_exit ?_);simp (disch:=omega) only [push_cast,seval,l20r0,l20r1a,l20r1b,l20r1,l20r2,l20r3a,l20r3b,l20r3,h])
 | ((first|refine condB_split (fun h=>?_) (fun h=>?_)|refine gIf_split (fun h=>?_) (fun h=>?_)|refine qIf_split (fun h=>?_) (fun h=>?_))<;>(try simp only [h])<;>(try simp only [bitvec_to_nat] at h)<;>(try simp only [h])<;>(first|(exfalso;omega)|(focus (exfalso;simp_all;done))|(simp (disch:=omega) only [push_cast,seval,h])|skip))
 | ((first|refine callD_of false ?_|refine qcallD_of false ?_);simp (disch:=omega) only [push_cast,seval,h])
 | ((first|((first|refine call0D (BCall.ofP (pair_ok _ _ _ _ _ _ _ _ _ _ _ _ ?_ ?_ ?_ ?_ ?_ ?_)) ?_|refine qcall0D (BCall.ofP (pair_ok _ _ _ _ _ _ _ _ _ _ _ _ ?_ ?_ ?_ ?_ ?_ ?_)) ⟨_,_,rfl,rfl⟩ ?_);(iterate 6 (exact sd));rintro _ _ ⟨rfl,rfl⟩)|((first|refine call0D (soffsets_ok _ _ _ _ _ ?_ ?_ ?_) ?_|refine qcall0D (soffsets_ok _ _ _ _ _ ?_ ?_ ?_) ⟨_,_,rfl,rfl⟩ ?_);(iterate 3 (exact sd));rintro _ _ ⟨rfl,rfl⟩)|((first|refine call0D (sboth_ok _ _ _ _ ?_ ?_ ?_) ?_|refine qcall0D (sboth_ok _ _ _ _ ?_ ?_ ?_) ⟨_,_,rfl,rfl⟩ ?_);(iterate 3 (exact sd));rintro _ _ ⟨rfl,rfl⟩)|((first|refine call0D (BCall.ofP (sdifferent_ok _ _ ?_ ?_)) ?_|refine qcall0D (BCall.ofP (sdifferent_ok _ _ ?_ ?_)) ⟨_,_,rfl,rfl⟩ ?_);(iterate 2 (exact sd));rintro _ _ ⟨rfl,rfl⟩)|((first|refine call0D (sload_ok _ _ _ _ _ _ _ ?_ ?_ ?_ ?_) ?_|refine qcall0D (sload_ok _ _ _ _ _ _ _ ?_ ?_ ?_ ?_) ⟨_,_,rfl,rfl⟩ ?_);(iterate 4 (exact sd));rintro _ _ ⟨rfl,rfl⟩)|((first|refine call0D (sput_ok _ _ _ _ _ _ _ _ _ ?_ ?_ ?_ ?_ ?_) ?_|refine qcall0D (sput_ok _ _ _ _ _ _ _ _ _ ?_ ?_ ?_ ?_ ?_) ⟨_,_,rfl,rfl⟩ ?_);(iterate 5 (exact sd));rintro _ _ ⟨rfl,rfl⟩))<;>(try simp (disch:=omega) only [push_cast,seval,h]))
 | (refine awp_ret ⟨.inr rfl,[16000],[(16000,1)],_,by decide,rfl,?_⟩;(try simp (disch:=omega) only [push_cast,seval,↓allMem_nil,↓allMem_cons,↓List.map_cons,↓List.map_nil,h]))))
    all_goals simp [TB,MVL]
  | true =>
    obtain ⟨⟨e1,e2,e3⟩,⟨l1,l2,l3⟩,k1,k2⟩:=sw_facts h
    obtain ⟨h1,h2,h3⟩:=two_facts h
    have v1:okV b sh st ∧ st.length=sh.length:=⟨(see_facts h1).1,(see_facts h1).2.1⟩
    have v2:okV b' sh' st' ∧ st'.length=sh'.length:=⟨(see_facts h2).1,(see_facts h2).2.1⟩
    have v3:=(seeB_spec.1 h1).2.1
    have v4:=(seeB_spec.1 h2).2.1
    have hBl:=bothL_le (offs b sh st) (offs b' sh' st')
    have hs:swB mem b sh st b' sh' st'=(!doB b sh st b' sh' st' && (oneB b sh st && oneB b' sh' st')):=by unfold swB;rw [h];rfl
    have hsl:swL mem (offs b sh st) (offs b' sh' st')=putL (putL mem (offs b sh st) (takesL mem (offs b' sh' st'))) (offs b' sh' st') (takesL mem (offs b sh st)):=rfl
    rw [hs,hsl]
    clear hs hsl
    have pl1:=putL_length mem (offs b sh st) (takesL mem (offs b' sh' st'))
    have pl2:=putL_length (putL mem (offs b sh st) (takesL mem (offs b' sh' st'))) (offs b' sh' st') (takesL mem (offs b sh st))
    generalize hD:doB b sh st b' sh' st'=D at *
    generalize hA:oneB b sh st=A at *
    generalize hA':oneB b' sh' st'=A' at *
    generalize hL:offs b sh st=L at *
    generalize hL':offs b' sh' st'=L' at *
    generalize hX:takesL mem L'=X at *
    generalize hY:takesL mem L=Y at *
    generalize hP:putL mem L X=P at *
    generalize hF:putL P L' Y=F at *
    generalize hBB:bothL L L'=B at *
    have q5:L.length ≤ 1099511627776 ∧ L'.length ≤ 1099511627776:=by omega
    cases hDc:D with
    | true =>
      subst hDc
      have d1:(B.length:Int) > 0:=by have:=of_decide_eq_true e1.symm;omega
      clear e1
      (repeat' (first
 | (first|refine awp_seq ?_|refine awp_block ?_)
 | ((first|refine awp_reg ?_|refine awp_draw (mid:=l20r1a) (post:=l20r1b) mixed (by decide) ?_|refine awp_draw (mid:=l20r3a) (post:=l20r3b) mixed (by decide) ?_|refine awp_condB ?_|refine awp_skip ?_|refine awp_exit ?_);simp (disch:=omega) only [push_cast,seval,l20r0,l20r1a,l20r1b,l20r1,l20r2,l20r3a,l20r3b,l20r3,h,hL,hL',hX,hY,hP,hF,hBB,h1,h2,v3,v4,hD,d1])
 | ((first|refine condB_split (fun h=>?_) (fun h=>?_)|refine gIf_split (fun h=>?_) (fun h=>?_)|refine qIf_split (fun h=>?_) (fun h=>?_))<;>(try simp only [h])<;>(try simp only [bitvec_to_nat] at h)<;>(try simp only [h])<;>(first|(exfalso;omega)|(focus (exfalso;simp_all;done))|(simp (disch:=omega) only [push_cast,seval,h,hL,hL',hX,hY,hP,hF,hBB,h1,h2,v3,v4,hD,d1])|skip))
 | ((first|refine callD_of false ?_|refine qcallD_of false ?_);simp (disch:=omega) only [push_cast,seval,h,hL,hL',hX,hY,hP,hF,hBB,h1,h2,v3,v4,hD,d1])
 | ((first|((first|refine call0D (BCall.ofP (pair_ok _ _ _ _ _ _ _ _ _ _ _ _ ?_ ?_ ?_ ?_ ?_ ?_)) ?_|refine qcall0D (BCall.ofP (pair_ok _ _ _ _ _ _ _ _ _ _ _ _ ?_ ?_ ?_ ?_ ?_ ?_)) ⟨_,_,rfl,rfl⟩ ?_);(iterate 6 (exact sd));rintro _ _ ⟨rfl,rfl⟩)|((first|refine call0D (soffsets_ok _ _ _ _ _ ?_ ?_ ?_) ?_|refine qcall0D (soffsets_ok _ _ _ _ _ ?_ ?_ ?_) ⟨_,_,rfl,rfl⟩ ?_);(iterate 3 (exact sd));rintro _ _ ⟨rfl,rfl⟩)|((first|refine call0D (sboth_ok _ _ _ _ ?_ ?_ ?_) ?_|refine qcall0D (sboth_ok _ _ _ _ ?_ ?_ ?_) ⟨_,_,rfl,rfl⟩ ?_);(iterate 3 (exact sd));rintro _ _ ⟨rfl,rfl⟩)|((first|refine call0D (BCall.ofP (sdifferent_ok _ _ ?_ ?_)) ?_|refine qcall0D (BCall.ofP (sdifferent_ok _ _ ?_ ?_)) ⟨_,_,rfl,rfl⟩ ?_);(iterate 2 (exact sd));rintro _ _ ⟨rfl,rfl⟩)|((first|refine call0D (sload_ok _ _ _ _ _ _ _ ?_ ?_ ?_ ?_) ?_|refine qcall0D (sload_ok _ _ _ _ _ _ _ ?_ ?_ ?_ ?_) ⟨_,_,rfl,rfl⟩ ?_);(iterate 4 (exact sd));rintro _ _ ⟨rfl,rfl⟩)|((first|refine call0D (sput_ok _ _ _ _ _ _ _ _ _ ?_ ?_ ?_ ?_ ?_) ?_|refine qcall0D (sput_ok _ _ _ _ _ _ _ _ _ ?_ ?_ ?_ ?_ ?_) ⟨_,_,rfl,rfl⟩ ?_);(iterate 5 (exact sd));rintro _ _ ⟨rfl,rfl⟩))<;>(try simp (disch:=omega) only [push_cast,seval,h,hL,hL',hX,hY,hP,hF,hBB,h1,h2,v3,v4,hD,d1]))
 | (refine awp_ret ⟨.inr rfl,[16000],[(16000,1)],_,by decide,rfl,?_⟩;(try simp (disch:=omega) only [push_cast,seval,↓allMem_nil,↓allMem_cons,↓List.map_cons,↓List.map_nil,h,hL,hL',hX,hY,hP,hF,hBB,h1,h2,v3,v4,hD,d1]))))
      all_goals simp [TB,MVL]
    | false =>
      subst hDc
      have d1:¬ (B.length:Int) > 0:=by have:=of_decide_eq_false e1.symm;omega
      clear e1
      cases hAc:A with
 | false =>
        subst hAc
        (repeat' (first
 | (first|refine awp_seq ?_|refine awp_block ?_)
 | ((first|refine awp_reg ?_|refine awp_draw (mid:=l20r1a) (post:=l20r1b) mixed (by decide) ?_|refine awp_draw (mid:=l20r3a) (post:=l20r3b) mixed (by decide) ?_|refine awp_condB ?_|refine awp_skip ?_|refine awp_exit ?_);simp (disch:=omega) only [push_cast,seval,l20r0,l20r1a,l20r1b,l20r1,l20r2,l20r3a,l20r3b,l20r3,h,hL,hL',hX,hY,hP,hF,hBB,h1,h2,v3,v4,hD,hA,d1,← e2])
 | ((first|refine condB_split (fun h=>?_) (fun h=>?_)|refine gIf_split (fun h=>?_) (fun h=>?_)|refine qIf_split (fun h=>?_) (fun h=>?_))<;>(try simp only [h])<;>(try simp only [bitvec_to_nat] at h)<;>(try simp only [h])<;>(first|(exfalso;omega)|(focus (exfalso;simp_all;done))|(simp (disch:=omega) only [push_cast,seval,h,hL,hL',hX,hY,hP,hF,hBB,h1,h2,v3,v4,hD,hA,d1,← e2])|skip))
 | ((first|refine callD_of false ?_|refine qcallD_of false ?_);simp (disch:=omega) only [push_cast,seval,h,hL,hL',hX,hY,hP,hF,hBB,h1,h2,v3,v4,hD,hA,d1,← e2])
 | ((first|((first|refine call0D (BCall.ofP (pair_ok _ _ _ _ _ _ _ _ _ _ _ _ ?_ ?_ ?_ ?_ ?_ ?_)) ?_|refine qcall0D (BCall.ofP (pair_ok _ _ _ _ _ _ _ _ _ _ _ _ ?_ ?_ ?_ ?_ ?_ ?_)) ⟨_,_,rfl,rfl⟩ ?_);(iterate 6 (exact sd));rintro _ _ ⟨rfl,rfl⟩)|((first|refine call0D (soffsets_ok _ _ _ _ _ ?_ ?_ ?_) ?_|refine qcall0D (soffsets_ok _ _ _ _ _ ?_ ?_ ?_) ⟨_,_,rfl,rfl⟩ ?_);(iterate 3 (exact sd));rintro _ _ ⟨rfl,rfl⟩)|((first|refine call0D (sboth_ok _ _ _ _ ?_ ?_ ?_) ?_|refine qcall0D (sboth_ok _ _ _ _ ?_ ?_ ?_) ⟨_,_,rfl,rfl⟩ ?_);(iterate 3 (exact sd));rintro _ _ ⟨rfl,rfl⟩)|((first|refine call0D (BCall.ofP (sdifferent_ok _ _ ?_ ?_)) ?_|refine qcall0D (BCall.ofP (sdifferent_ok _ _ ?_ ?_)) ⟨_,_,rfl,rfl⟩ ?_);(iterate 2 (exact sd));rintro _ _ ⟨rfl,rfl⟩)|((first|refine call0D (sload_ok _ _ _ _ _ _ _ ?_ ?_ ?_ ?_) ?_|refine qcall0D (sload_ok _ _ _ _ _ _ _ ?_ ?_ ?_ ?_) ⟨_,_,rfl,rfl⟩ ?_);(iterate 4 (exact sd));rintro _ _ ⟨rfl,rfl⟩)|((first|refine call0D (sput_ok _ _ _ _ _ _ _ _ _ ?_ ?_ ?_ ?_ ?_) ?_|refine qcall0D (sput_ok _ _ _ _ _ _ _ _ _ ?_ ?_ ?_ ?_ ?_) ⟨_,_,rfl,rfl⟩ ?_);(iterate 5 (exact sd));rintro _ _ ⟨rfl,rfl⟩))<;>(try simp (disch:=omega) only [push_cast,seval,h,hL,hL',hX,hY,hP,hF,hBB,h1,h2,v3,v4,hD,hA,d1,← e2]))
 | (refine awp_ret ⟨.inr rfl,[16000],[(16000,1)],_,by decide,rfl,?_⟩;(try simp (disch:=omega) only [push_cast,seval,↓allMem_nil,↓allMem_cons,↓List.map_cons,↓List.map_nil,h,hL,hL',hX,hY,hP,hF,hBB,h1,h2,v3,v4,hD,hA,d1,← e2]))))
        all_goals simp [TB,MVL]
 | true =>
        subst hAc
        cases hAd:A' with
        | false =>
          subst hAd
          (repeat' (first
 | (first|refine awp_seq ?_|refine awp_block ?_)
 | ((first|refine awp_reg ?_|refine awp_draw (mid:=l20r1a) (post:=l20r1b) mixed (by decide) ?_|refine awp_draw (mid:=l20r3a) (post:=l20r3b) mixed (by decide) ?_|refine awp_condB ?_|refine awp_skip ?_|refine awp_exit ?_);simp (disch:=omega) only [push_cast,seval,l20r0,l20r1a,l20r1b,l20r1,l20r2,l20r3a,l20r3b,l20r3,h,hL,hL',hX,hY,hP,hF,hBB,h1,h2,v3,v4,hD,hA,hA',d1,← e2,← e3])
 | ((first|refine condB_split (fun h=>?_) (fun h=>?_)|refine gIf_split (fun h=>?_) (fun h=>?_)|refine qIf_split (fun h=>?_) (fun h=>?_))<;>(try simp only [h])<;>(try simp only [bitvec_to_nat] at h)<;>(try simp only [h])<;>(first|(exfalso;omega)|(focus (exfalso;simp_all;done))|(simp (disch:=omega) only [push_cast,seval,h,hL,hL',hX,hY,hP,hF,hBB,h1,h2,v3,v4,hD,hA,hA',d1,← e2,← e3])|skip))
 | ((first|refine callD_of false ?_|refine qcallD_of false ?_);simp (disch:=omega) only [push_cast,seval,h,hL,hL',hX,hY,hP,hF,hBB,h1,h2,v3,v4,hD,hA,hA',d1,← e2,← e3])
 | ((first|((first|refine call0D (BCall.ofP (pair_ok _ _ _ _ _ _ _ _ _ _ _ _ ?_ ?_ ?_ ?_ ?_ ?_)) ?_|refine qcall0D (BCall.ofP (pair_ok _ _ _ _ _ _ _ _ _ _ _ _ ?_ ?_ ?_ ?_ ?_ ?_)) ⟨_,_,rfl,rfl⟩ ?_);(iterate 6 (exact sd));rintro _ _ ⟨rfl,rfl⟩)|((first|refine call0D (soffsets_ok _ _ _ _ _ ?_ ?_ ?_) ?_|refine qcall0D (soffsets_ok _ _ _ _ _ ?_ ?_ ?_) ⟨_,_,rfl,rfl⟩ ?_);(iterate 3 (exact sd));rintro _ _ ⟨rfl,rfl⟩)|((first|refine call0D (sboth_ok _ _ _ _ ?_ ?_ ?_) ?_|refine qcall0D (sboth_ok _ _ _ _ ?_ ?_ ?_) ⟨_,_,rfl,rfl⟩ ?_);(iterate 3 (exact sd));rintro _ _ ⟨rfl,rfl⟩)|((first|refine call0D (BCall.ofP (sdifferent_ok _ _ ?_ ?_)) ?_|refine qcall0D (BCall.ofP (sdifferent_ok _ _ ?_ ?_)) ⟨_,_,rfl,rfl⟩ ?_);(iterate 2 (exact sd));rintro _ _ ⟨rfl,rfl⟩)|((first|refine call0D (sload_ok _ _ _ _ _ _ _ ?_ ?_ ?_ ?_) ?_|refine qcall0D (sload_ok _ _ _ _ _ _ _ ?_ ?_ ?_ ?_) ⟨_,_,rfl,rfl⟩ ?_);(iterate 4 (exact sd));rintro _ _ ⟨rfl,rfl⟩)|((first|refine call0D (sput_ok _ _ _ _ _ _ _ _ _ ?_ ?_ ?_ ?_ ?_) ?_|refine qcall0D (sput_ok _ _ _ _ _ _ _ _ _ ?_ ?_ ?_ ?_ ?_) ⟨_,_,rfl,rfl⟩ ?_);(iterate 5 (exact sd));rintro _ _ ⟨rfl,rfl⟩))<;>(try simp (disch:=omega) only [push_cast,seval,h,hL,hL',hX,hY,hP,hF,hBB,h1,h2,v3,v4,hD,hA,hA',d1,← e2,← e3]))
 | (refine awp_ret ⟨.inr rfl,[16000],[(16000,1)],_,by decide,rfl,?_⟩; (try simp (disch := omega) only [push_cast,seval,↓allMem_nil,↓allMem_cons,↓List.map_cons,↓List.map_nil,h,hL,hL',hX,hY,hP,hF,hBB,h1,h2,v3,v4,hD,hA,hA',d1,← e2,← e3]))))
          all_goals simp [TB,MVL]
        | true =>
          subst hAd
          (repeat' (first
 | (first|refine awp_seq ?_|refine awp_block ?_)
 | ((first|refine awp_reg ?_|refine awp_draw (mid:=l20r1a) (post:=l20r1b) mixed (by decide) ?_|refine awp_draw (mid:=l20r3a) (post:=l20r3b) mixed (by decide) ?_|refine awp_condB ?_|refine awp_skip ?_|refine awp_exit ?_);simp (disch:=omega) only [push_cast,seval,l20r0,l20r1a,l20r1b,l20r1,l20r2,l20r3a,l20r3b,l20r3,h,hL,hL',hX,hY,hP,hF,hBB,h1,h2,v3,v4,hD,hA,hA',d1,← e2,← e3])
 | ((first|refine condB_split (fun h=>?_) (fun h=>?_)|refine gIf_split (fun h=>?_) (fun h=>?_)|refine qIf_split (fun h=>?_) (fun h=>?_))<;>(try simp only [h])<;>(try simp only [bitvec_to_nat] at h)<;>(try simp only [h])<;>(first|(exfalso;omega)|(focus (exfalso;simp_all;done))|(simp (disch:=omega) only [push_cast,seval,h,hL,hL',hX,hY,hP,hF,hBB,h1,h2,v3,v4,hD,hA,hA',d1,← e2,← e3])|skip))
 | ((first|refine callD_of false ?_|refine qcallD_of false ?_);simp (disch:=omega) only [push_cast,seval,h,hL,hL',hX,hY,hP,hF,hBB,h1,h2,v3,v4,hD,hA,hA',d1,← e2,← e3])
 | ((first|((first|refine call0D (BCall.ofP (pair_ok _ _ _ _ _ _ _ _ _ _ _ _ ?_ ?_ ?_ ?_ ?_ ?_)) ?_|refine qcall0D (BCall.ofP (pair_ok _ _ _ _ _ _ _ _ _ _ _ _ ?_ ?_ ?_ ?_ ?_ ?_)) ⟨_,_,rfl,rfl⟩ ?_);(iterate 6 (exact sd));rintro _ _ ⟨rfl,rfl⟩)|((first|refine call0D (soffsets_ok _ _ _ _ _ ?_ ?_ ?_) ?_|refine qcall0D (soffsets_ok _ _ _ _ _ ?_ ?_ ?_) ⟨_,_,rfl,rfl⟩ ?_);(iterate 3 (exact sd));rintro _ _ ⟨rfl,rfl⟩)|((first|refine call0D (sboth_ok _ _ _ _ ?_ ?_ ?_) ?_|refine qcall0D (sboth_ok _ _ _ _ ?_ ?_ ?_) ⟨_,_,rfl,rfl⟩ ?_);(iterate 3 (exact sd));rintro _ _ ⟨rfl,rfl⟩)|((first|refine call0D (BCall.ofP (sdifferent_ok _ _ ?_ ?_)) ?_|refine qcall0D (BCall.ofP (sdifferent_ok _ _ ?_ ?_)) ⟨_,_,rfl,rfl⟩ ?_);(iterate 2 (exact sd));rintro _ _ ⟨rfl,rfl⟩)|((first|refine call0D (sload_ok _ _ _ _ _ _ _ ?_ ?_ ?_ ?_) ?_|refine qcall0D (BCall.ofP (plainI (sload_ok _ _ _ _ _ _ _ ?_ ?_ ?_ ?_))) ⟨_,_,rfl,rfl⟩ ?_);(iterate 4 (exact sd));rintro _ _ ⟨rfl,rfl⟩)|((first|refine call0D (sput_ok _ _ _ _ _ _ _ _ _ ?_ ?_ ?_ ?_ ?_) ?_|refine qcall0D (BCall.ofP (plainI (sput_ok _ _ _ _ _ _ _ _ _ ?_ ?_ ?_ ?_ ?_))) ⟨_,_,rfl,rfl⟩ ?_);(iterate 5 (exact sd));rintro _ _ ⟨rfl,rfl⟩))<;>(try simp (disch:=omega) only [push_cast,seval,h,hL,hL',hX,hY,hP,hF,hBB,h1,h2,v3,v4,hD,hA,hA',d1,← e2,← e3]))
 | (refine awp_ret ⟨.inr rfl,[704],[],_,by decide,rfl,?_⟩; (try simp (disch := omega) only [push_cast,seval,↓allMem_nil,↓allMem_cons,↓List.map_cons,↓List.map_nil,h,hL,hL',hX,hY,hP,hF,hBB,h1,h2,v3,v4,hD,hA,hA',d1,← e2,← e3]))))
          all_goals simp [TB,MVL]


set_option maxHeartbeats 16000000 in
theorem iSw_ok (mem:List Int) (b:Int) (sh st:List Int) (b':Int) (sh' st':List Int) (q n m n' m':Nat) (hq:mem.length=q) (hn:sh.length=n) (hm:st.length=m) (hn':sh'.length=n') (hm':st'.length=m') (hb:(q ≤ 1099511627776 ∧ n ≤ 1099511627776 ∧ m ≤ 1099511627776) ∧ n' ≤ 1099511627776 ∧ m' ≤ 1099511627776):BCall Tryz.prog 19 [.rows false (IL mem) q,.agg [.int .i64 b,.rows false (IL sh) n,.rows false (IL st) m],.agg [.int .i64 b',.rows false (IL sh') n',.rows false (IL st') m']] [] (TB (swB mem b sh st b' sh' st') (swL mem (offs b sh st) (offs b' sh' st'))):=by
  subst hq hn hm hn' hm'
  obtain ⟨⟨hb0,hb1,hb2⟩,hb3,hb4⟩:=hb
  have q0:(mem.length ≤ 1099511627776 ∧ sh.length ≤ 1099511627776 ∧ st.length ≤ 1099511627776) ∧ sh'.length ≤ 1099511627776 ∧ st'.length ≤ 1099511627776:=⟨⟨hb0,hb1,hb2⟩,hb3,hb4⟩
  have q1:(sh.length ≤ 1099511627776 ∧ st.length ≤ 1099511627776) ∧ sh'.length ≤ 1099511627776 ∧ st'.length ≤ 1099511627776:=by omega
  have q2:sh.length ≤ 1099511627776 ∧ st.length ≤ 1099511627776:=by omega
  have q3:sh'.length ≤ 1099511627776 ∧ st'.length ≤ 1099511627776:=by omega
  refine bcall_of (pins:=[]) (pin:=0) l19_eq rfl rfl rfl ?_
  cases h:twoB mem b sh st b' sh' st' with
  | false =>
    have hs:swB mem b sh st b' sh' st'=false:=by unfold swB;rw [h];rfl
    rw [hs]
    (repeat' (first
 | (first|refine awp_seq ?_|refine awp_block ?_)
 | ((first|refine awp_reg ?_|refine awp_draw (mid:=l19r3a) (post:=l19r3b) mixed (by decide) ?_|refine awp_condB ?_|refine awp_skip ?_|refine awp_exit ?_);simp (disch:=omega) only [push_cast,seval,l19r0,l19r1,l19r2,l19r3a,l19r3b,l19r3,h])
 | ((first|refine condB_split (fun h=>?_) (fun h=>?_)|refine gIf_split (fun h=>?_) (fun h=>?_)|refine qIf_split (fun h=>?_) (fun h=>?_))<;>(try simp only [h])<;>(try simp only [bitvec_to_nat] at h)<;>(try simp only [h])<;>(first|(exfalso;omega)|(focus (exfalso;simp_all;done))|(simp (disch:=omega) only [push_cast,seval,h])|skip))
 | ((first|refine callD_of false ?_|refine qcallD_of false ?_);simp (disch:=omega) only [push_cast,seval,h])
 | ((first|((first|refine call0D (BCall.ofP (holdsPair_ok _ _ _ _ _ _ _ _ _ _ _ _ ?_ ?_ ?_ ?_ ?_ ?_)) ?_|refine qcall0D (BCall.ofP (holdsPair_ok _ _ _ _ _ _ _ _ _ _ _ _ ?_ ?_ ?_ ?_ ?_ ?_)) ⟨_,_,rfl,rfl⟩ ?_);(iterate 6 (exact sd));rintro _ _ ⟨rfl,rfl⟩)|((first|refine call0D (BCall.ofP (iDo_ok _ _ _ _ _ _ _ _ _ _ ?_ ?_ ?_ ?_ ?_)) ?_|refine qcall0D (BCall.ofP (iDo_ok _ _ _ _ _ _ _ _ _ _ ?_ ?_ ?_ ?_ ?_)) ⟨_,_,rfl,rfl⟩ ?_);(iterate 5 (exact sd));rintro _ _ ⟨rfl,rfl⟩)|((first|refine call0D (BCall.ofP (iIsOneToOne_ok _ _ _ _ _ ?_ ?_ ?_)) ?_|refine qcall0D (BCall.ofP (iIsOneToOne_ok _ _ _ _ _ ?_ ?_ ?_)) ⟨_,_,rfl,rfl⟩ ?_);(iterate 3 (exact sd));rintro _ _ ⟨rfl,rfl⟩)|((first|refine call0D (loaded_ok _ _ _ _ _ _ _ ?_ ?_ ?_ ?_) ?_|refine qcall0D (loaded_ok _ _ _ _ _ _ _ ?_ ?_ ?_ ?_) ⟨_,_,rfl,rfl⟩ ?_);(iterate 4 (exact sd));rintro _ _ ⟨rfl,rfl⟩)|((first|refine call0D (stored_ok _ _ _ _ _ _ _ _ _ ?_ ?_ ?_ ?_ ?_) ?_|refine qcall0D (stored_ok _ _ _ _ _ _ _ _ _ ?_ ?_ ?_ ?_ ?_) ⟨_,_,rfl,rfl⟩ ?_);(iterate 5 (exact sd));rintro _ _ ⟨rfl,rfl⟩))<;>(try simp (disch:=omega) only [push_cast,seval,h]))
 | (refine awp_ret ⟨.inr rfl,[16000],[(16000,1)],_,by decide,rfl,?_⟩;(try simp (disch:=omega) only [push_cast,seval,↓allMem_nil,↓allMem_cons,↓List.map_cons,↓List.map_nil,h]))))
    all_goals simp [TB,MVL]
  | true =>
    obtain ⟨⟨e1,e2,e3⟩,⟨l1,l2,l3⟩,k1,k2⟩:=sw_facts h
    obtain ⟨h1,h2,h3⟩:=two_facts h
    have v1:okV b sh st ∧ st.length=sh.length:=⟨(see_facts h1).1,(see_facts h1).2.1⟩
    have v2:okV b' sh' st' ∧ st'.length=sh'.length:=⟨(see_facts h2).1,(see_facts h2).2.1⟩
    have v3:=(seeB_spec.1 h1).2.1
    have v4:=(seeB_spec.1 h2).2.1
    have hBl:=bothL_le (offs b sh st) (offs b' sh' st')
    have hs:swB mem b sh st b' sh' st'=(!doB b sh st b' sh' st' && (oneB b sh st && oneB b' sh' st')):=by unfold swB;rw [h];rfl
    have hsl:swL mem (offs b sh st) (offs b' sh' st')=putL (putL mem (offs b sh st) (takesL mem (offs b' sh' st'))) (offs b' sh' st') (takesL mem (offs b sh st)):=rfl
    rw [hs,hsl]
    clear hs hsl
    have pl1:=putL_length mem (offs b sh st) (takesL mem (offs b' sh' st'))
    have pl2:=putL_length (putL mem (offs b sh st) (takesL mem (offs b' sh' st'))) (offs b' sh' st') (takesL mem (offs b sh st))
    generalize hD:doB b sh st b' sh' st'=D at *
    generalize hA:oneB b sh st=A at *
    generalize hA':oneB b' sh' st'=A' at *
    generalize hL:offs b sh st=L at *
    generalize hL':offs b' sh' st'=L' at *
    generalize hX:takesL mem L'=X at *
    generalize hY:takesL mem L=Y at *
    generalize hP:putL mem L X=P at *
    generalize hF:putL P L' Y=F at *
    generalize hBB:bothL L L'=B at *
    have q5:L.length ≤ 1099511627776 ∧ L'.length ≤ 1099511627776:=by omega
    cases hDc:D with
    | true =>
      subst hDc
      clear e1
      (repeat' (first
 | (first|refine awp_seq ?_|refine awp_block ?_)
 | ((first|refine awp_reg ?_|refine awp_draw (mid:=l19r3a) (post:=l19r3b) mixed (by decide) ?_|refine awp_condB ?_|refine awp_skip ?_|refine awp_exit ?_);simp (disch:=omega) only [push_cast,seval,l19r0,l19r1,l19r2,l19r3a,l19r3b,l19r3,h,hL,hL',hX,hY,hP,hF,hBB,h1,h2,v3,v4,hD])
 | ((first|refine condB_split (fun h=>?_) (fun h=>?_)|refine gIf_split (fun h=>?_) (fun h=>?_)|refine qIf_split (fun h=>?_) (fun h=>?_))<;>(try simp only [h])<;>(try simp only [bitvec_to_nat] at h)<;>(try simp only [h])<;>(first|(exfalso;omega)|(focus (exfalso;simp_all;done))|(simp (disch:=omega) only [push_cast,seval,h,hL,hL',hX,hY,hP,hF,hBB,h1,h2,v3,v4,hD])|skip))
 | ((first|refine callD_of false ?_|refine qcallD_of false ?_);simp (disch:=omega) only [push_cast,seval,h,hL,hL',hX,hY,hP,hF,hBB,h1,h2,v3,v4,hD])
 | ((first|((first|refine call0D (BCall.ofP (holdsPair_ok _ _ _ _ _ _ _ _ _ _ _ _ ?_ ?_ ?_ ?_ ?_ ?_)) ?_|refine qcall0D (BCall.ofP (holdsPair_ok _ _ _ _ _ _ _ _ _ _ _ _ ?_ ?_ ?_ ?_ ?_ ?_)) ⟨_,_,rfl,rfl⟩ ?_);(iterate 6 (exact sd));rintro _ _ ⟨rfl,rfl⟩)|((first|refine call0D (BCall.ofP (iDo_ok _ _ _ _ _ _ _ _ _ _ ?_ ?_ ?_ ?_ ?_)) ?_|refine qcall0D (BCall.ofP (iDo_ok _ _ _ _ _ _ _ _ _ _ ?_ ?_ ?_ ?_ ?_)) ⟨_,_,rfl,rfl⟩ ?_);(iterate 5 (exact sd));rintro _ _ ⟨rfl,rfl⟩)|((first|refine call0D (BCall.ofP (iIsOneToOne_ok _ _ _ _ _ ?_ ?_ ?_)) ?_|refine qcall0D (BCall.ofP (iIsOneToOne_ok _ _ _ _ _ ?_ ?_ ?_)) ⟨_,_,rfl,rfl⟩ ?_);(iterate 3 (exact sd));rintro _ _ ⟨rfl,rfl⟩)|((first|refine call0D (loaded_ok _ _ _ _ _ _ _ ?_ ?_ ?_ ?_) ?_|refine qcall0D (loaded_ok _ _ _ _ _ _ _ ?_ ?_ ?_ ?_) ⟨_,_,rfl,rfl⟩ ?_);(iterate 4 (exact sd));rintro _ _ ⟨rfl,rfl⟩)|((first|refine call0D (stored_ok _ _ _ _ _ _ _ _ _ ?_ ?_ ?_ ?_ ?_) ?_|refine qcall0D (stored_ok _ _ _ _ _ _ _ _ _ ?_ ?_ ?_ ?_ ?_) ⟨_,_,rfl,rfl⟩ ?_);(iterate 5 (exact sd));rintro _ _ ⟨rfl,rfl⟩))<;>(try simp (disch:=omega) only [push_cast,seval,h,hL,hL',hX,hY,hP,hF,hBB,h1,h2,v3,v4,hD]))
 | (refine awp_ret ⟨.inr rfl,[16000],[(16000,1)],_,by decide,rfl,?_⟩;(try simp (disch:=omega) only [push_cast,seval,↓allMem_nil,↓allMem_cons,↓List.map_cons,↓List.map_nil,h,hL,hL',hX,hY,hP,hF,hBB,h1,h2,v3,v4,hD]))))
      all_goals simp [TB,MVL]
    | false =>
      subst hDc
      clear e1
      cases hAc:A with
 | false =>
        subst hAc
        (repeat' (first
 | (first|refine awp_seq ?_|refine awp_block ?_)
 | ((first|refine awp_reg ?_|refine awp_draw (mid:=l19r3a) (post:=l19r3b) mixed (by decide) ?_|refine awp_condB ?_|refine awp_skip ?_|refine awp_exit ?_);simp (disch:=omega) only [push_cast,seval,l19r0,l19r1,l19r2,l19r3a,l19r3b,l19r3,h,hL,hL',hX,hY,hP,hF,hBB,h1,h2,v3,v4,hD,hA])
 | ((first|refine condB_split (fun h=>?_) (fun h=>?_)|refine gIf_split (fun h=>?_) (fun h=>?_)|refine qIf_split (fun h=>?_) (fun h=>?_))<;>(try simp only [h])<;>(try simp only [bitvec_to_nat] at h)<;>(try simp only [h])<;>(first|(exfalso;omega)|(focus (exfalso;simp_all;done))|(simp (disch:=omega) only [push_cast,seval,h,hL,hL',hX,hY,hP,hF,hBB,h1,h2,v3,v4,hD,hA])|skip))
 | ((first|refine callD_of false ?_|refine qcallD_of false ?_);simp (disch:=omega) only [push_cast,seval,h,hL,hL',hX,hY,hP,hF,hBB,h1,h2,v3,v4,hD,hA])
 | ((first|((first|refine call0D (BCall.ofP (holdsPair_ok _ _ _ _ _ _ _ _ _ _ _ _ ?_ ?_ ?_ ?_ ?_ ?_)) ?_|refine qcall0D (BCall.ofP (holdsPair_ok _ _ _ _ _ _ _ _ _ _ _ _ ?_ ?_ ?_ ?_ ?_ ?_)) ⟨_,_,rfl,rfl⟩ ?_);(iterate 6 (exact sd));rintro _ _ ⟨rfl,rfl⟩)|((first|refine call0D (BCall.ofP (iDo_ok _ _ _ _ _ _ _ _ _ _ ?_ ?_ ?_ ?_ ?_)) ?_|refine qcall0D (BCall.ofP (iDo_ok _ _ _ _ _ _ _ _ _ _ ?_ ?_ ?_ ?_ ?_)) ⟨_,_,rfl,rfl⟩ ?_);(iterate 5 (exact sd));rintro _ _ ⟨rfl,rfl⟩)|((first|refine call0D (BCall.ofP (iIsOneToOne_ok _ _ _ _ _ ?_ ?_ ?_)) ?_|refine qcall0D (BCall.ofP (iIsOneToOne_ok _ _ _ _ _ ?_ ?_ ?_)) ⟨_,_,rfl,rfl⟩ ?_);(iterate 3 (exact sd));rintro _ _ ⟨rfl,rfl⟩)|((first|refine call0D (loaded_ok _ _ _ _ _ _ _ ?_ ?_ ?_ ?_) ?_|refine qcall0D (loaded_ok _ _ _ _ _ _ _ ?_ ?_ ?_ ?_) ⟨_,_,rfl,rfl⟩ ?_);(iterate 4 (exact sd));rintro _ _ ⟨rfl,rfl⟩)|((first|refine call0D (stored_ok _ _ _ _ _ _ _ _ _ ?_ ?_ ?_ ?_ ?_) ?_|refine qcall0D (stored_ok _ _ _ _ _ _ _ _ _ ?_ ?_ ?_ ?_ ?_) ⟨_,_,rfl,rfl⟩ ?_);(iterate 5 (exact sd));rintro _ _ ⟨rfl,rfl⟩))<;>(try simp (disch:=omega) only [push_cast,seval,h,hL,hL',hX,hY,hP,hF,hBB,h1,h2,v3,v4,hD,hA]))
 | (refine awp_ret ⟨.inr rfl,[16000],[(16000,1)],_,by decide,rfl,?_⟩;(try simp (disch:=omega) only [push_cast,seval,↓allMem_nil,↓allMem_cons,↓List.map_cons,↓List.map_nil,h,hL,hL',hX,hY,hP,hF,hBB,h1,h2,v3,v4,hD,hA]))))
        all_goals simp [TB,MVL]
 | true =>
        subst hAc
        cases hAd:A' with
        | false =>
          subst hAd
          (repeat' (first
 | (first|refine awp_seq ?_|refine awp_block ?_)
 | ((first|refine awp_reg ?_|refine awp_draw (mid:=l19r3a) (post:=l19r3b) mixed (by decide) ?_|refine awp_condB ?_|refine awp_skip ?_|refine awp_exit ?_);simp (disch:=omega) only [push_cast,seval,l19r0,l19r1,l19r2,l19r3a,l19r3b,l19r3,h,hL,hL',hX,hY,hP,hF,hBB,h1,h2,v3,v4,hD,hA,hA'])
 | ((first|refine condB_split (fun h=>?_) (fun h=>?_)|refine gIf_split (fun h=>?_) (fun h=>?_)|refine qIf_split (fun h=>?_) (fun h=>?_))<;>(try simp only [h])<;>(try simp only [bitvec_to_nat] at h)<;>(try simp only [h])<;>(first|(exfalso;omega)|(focus (exfalso;simp_all;done))|(simp (disch:=omega) only [push_cast,seval,h,hL,hL',hX,hY,hP,hF,hBB,h1,h2,v3,v4,hD,hA,hA'])|skip))
 | ((first|refine callD_of false ?_|refine qcallD_of false ?_);simp (disch:=omega) only [push_cast,seval,h,hL,hL',hX,hY,hP,hF,hBB,h1,h2,v3,v4,hD,hA,hA'])
 | ((first|((first|refine call0D (BCall.ofP (holdsPair_ok _ _ _ _ _ _ _ _ _ _ _ _ ?_ ?_ ?_ ?_ ?_ ?_)) ?_|refine qcall0D (BCall.ofP (holdsPair_ok _ _ _ _ _ _ _ _ _ _ _ _ ?_ ?_ ?_ ?_ ?_ ?_)) ⟨_,_,rfl,rfl⟩ ?_);(iterate 6 (exact sd));rintro _ _ ⟨rfl,rfl⟩)|((first|refine call0D (BCall.ofP (iDo_ok _ _ _ _ _ _ _ _ _ _ ?_ ?_ ?_ ?_ ?_)) ?_|refine qcall0D (BCall.ofP (iDo_ok _ _ _ _ _ _ _ _ _ _ ?_ ?_ ?_ ?_ ?_)) ⟨_,_,rfl,rfl⟩ ?_);(iterate 5 (exact sd));rintro _ _ ⟨rfl,rfl⟩)|((first|refine call0D (BCall.ofP (iIsOneToOne_ok _ _ _ _ _ ?_ ?_ ?_)) ?_|refine qcall0D (BCall.ofP (iIsOneToOne_ok _ _ _ _ _ ?_ ?_ ?_)) ⟨_,_,rfl,rfl⟩ ?_);(iterate 3 (exact sd));rintro _ _ ⟨rfl,rfl⟩)|((first|refine call0D (loaded_ok _ _ _ _ _ _ _ ?_ ?_ ?_ ?_) ?_|refine qcall0D (loaded_ok _ _ _ _ _ _ _ ?_ ?_ ?_ ?_) ⟨_,_,rfl,rfl⟩ ?_);(iterate 4 (exact sd));rintro _ _ ⟨rfl,rfl⟩)|((first|refine call0D (stored_ok _ _ _ _ _ _ _ _ _ ?_ ?_ ?_ ?_ ?_) ?_|refine qcall0D (stored_ok _ _ _ _ _ _ _ _ _ ?_ ?_ ?_ ?_ ?_) ⟨_,_,rfl,rfl⟩ ?_);(iterate 5 (exact sd));rintro _ _ ⟨rfl,rfl⟩))<;>(try simp (disch:=omega) only [push_cast,seval,h,hL,hL',hX,hY,hP,hF,hBB,h1,h2,v3,v4,hD,hA,hA']))
 | (refine awp_ret ⟨.inr rfl,[16000],[(16000,1)],_,by decide,rfl,?_⟩; (try simp (disch := omega) only [push_cast,seval,↓allMem_nil,↓allMem_cons,↓List.map_cons,↓List.map_nil,h,hL,hL',hX,hY,hP,hF,hBB,h1,h2,v3,v4,hD,hA,hA']))))
          all_goals simp [TB,MVL]
        | true =>
          subst hAd
          (repeat' (first
 | (first|refine awp_seq ?_|refine awp_block ?_)
 | ((first|refine awp_reg ?_|refine awp_draw (mid:=l19r3a) (post:=l19r3b) mixed (by decide) ?_|refine awp_condB ?_|refine awp_skip ?_|refine awp_exit ?_);simp (disch:=omega) only [push_cast,seval,l19r0,l19r1,l19r2,l19r3a,l19r3b,l19r3,h,hL,hL',hX,hY,hP,hF,hBB,h1,h2,v3,v4,hD,hA,hA'])
 | ((first|refine condB_split (fun h=>?_) (fun h=>?_)|refine gIf_split (fun h=>?_) (fun h=>?_)|refine qIf_split (fun h=>?_) (fun h=>?_))<;>(try simp only [h])<;>(try simp only [bitvec_to_nat] at h)<;>(try simp only [h])<;>(first|(exfalso;omega)|(focus (exfalso;simp_all;done))|(simp (disch:=omega) only [push_cast,seval,h,hL,hL',hX,hY,hP,hF,hBB,h1,h2,v3,v4,hD,hA,hA'])|skip))
 | ((first|refine callD_of false ?_|refine qcallD_of false ?_);simp (disch:=omega) only [push_cast,seval,h,hL,hL',hX,hY,hP,hF,hBB,h1,h2,v3,v4,hD,hA,hA'])
 | ((first|((first|refine call0D (BCall.ofP (holdsPair_ok _ _ _ _ _ _ _ _ _ _ _ _ ?_ ?_ ?_ ?_ ?_ ?_)) ?_|refine qcall0D (BCall.ofP (holdsPair_ok _ _ _ _ _ _ _ _ _ _ _ _ ?_ ?_ ?_ ?_ ?_ ?_)) ⟨_,_,rfl,rfl⟩ ?_);(iterate 6 (exact sd));rintro _ _ ⟨rfl,rfl⟩)|((first|refine call0D (BCall.ofP (iDo_ok _ _ _ _ _ _ _ _ _ _ ?_ ?_ ?_ ?_ ?_)) ?_|refine qcall0D (BCall.ofP (iDo_ok _ _ _ _ _ _ _ _ _ _ ?_ ?_ ?_ ?_ ?_)) ⟨_,_,rfl,rfl⟩ ?_);(iterate 5 (exact sd));rintro _ _ ⟨rfl,rfl⟩)|((first|refine call0D (BCall.ofP (iIsOneToOne_ok _ _ _ _ _ ?_ ?_ ?_)) ?_|refine qcall0D (BCall.ofP (iIsOneToOne_ok _ _ _ _ _ ?_ ?_ ?_)) ⟨_,_,rfl,rfl⟩ ?_);(iterate 3 (exact sd));rintro _ _ ⟨rfl,rfl⟩)|((first|refine call0D (loaded_ok _ _ _ _ _ _ _ ?_ ?_ ?_ ?_) ?_|refine qcall0D (BCall.ofP (plainI (loaded_ok _ _ _ _ _ _ _ ?_ ?_ ?_ ?_))) ⟨_,_,rfl,rfl⟩ ?_);(iterate 4 (exact sd));rintro _ _ ⟨rfl,rfl⟩)|((first|refine call0D (stored_ok _ _ _ _ _ _ _ _ _ ?_ ?_ ?_ ?_ ?_) ?_|refine qcall0D (BCall.ofP (plainI (stored_ok _ _ _ _ _ _ _ _ _ ?_ ?_ ?_ ?_ ?_))) ⟨_,_,rfl,rfl⟩ ?_);(iterate 5 (exact sd));rintro _ _ ⟨rfl,rfl⟩))<;>(try simp (disch:=omega) only [push_cast,seval,h,hL,hL',hX,hY,hP,hF,hBB,h1,h2,v3,v4,hD,hA,hA']))
 | (refine awp_ret ⟨.inr rfl,[608],[],_,by decide,rfl,?_⟩; (try simp (disch := omega) only [push_cast,seval,↓allMem_nil,↓allMem_cons,↓List.map_cons,↓List.map_nil,h,hL,hL',hX,hY,hP,hF,hBB,h1,h2,v3,v4,hD,hA,hA']))))
          all_goals simp [TB,MVL]

end Go.Proofs.YtceopplkfomalaaGreat
