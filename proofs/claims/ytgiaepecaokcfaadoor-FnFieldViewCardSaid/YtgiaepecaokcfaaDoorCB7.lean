/- Texts of this verifier. -/
import Derived.Test.YtgiaepecaokcfaaDoorCB6
import Derived.Test.YtgiaepecaokcfaaDoorCM1
import Derived.Test.YtgiaepecaokcfaaDoorCW3
set_option linter.unusedSimpArgs false
set_option linter.unusedVariables false
set_option maxRecDepth 4000
set_option maxHeartbeats 4000000
namespace Go.Proofs.YtgiaepecaokcfaaDoor
open VwM Vw Go

set_option maxHeartbeats 8000000 in
theorem iOv_ok (b:Int) (sh st:List Int) (b':Int) (sh' st':List Int) (n m n' m':Nat) (hn:sh.length=n) (hm:st.length=m) (hn':sh'.length=n') (hm':st'.length=m') (hb:(n ≤ 1099511627776 ∧ m ≤ 1099511627776) ∧ n' ≤ 1099511627776 ∧ m' ≤ 1099511627776):BCall Tryd.prog 28 [.agg [.int .i64 b,.rows false (IL sh) n,.rows false (IL st) m],.agg [.int .i64 b',.rows false (IL sh') n',.rows false (IL st') m']] [] (OI (MVL (ovB b sh st b' sh' st') (bothL (offs b sh st) (offs b' sh' st')))):=by
  subst hn hm hn' hm'
  obtain ⟨⟨hb1,hb2⟩,hb3,hb4⟩:=hb
  refine A3z (pins:=[]) (pin:=0) l28_eq rfl rfl rfl ?_
  unfold ovB
  cases hv:vV b sh st with
  | false =>
    (repeat' (first
 | (first|refine Akz ?_|refine Aez ?_)
 | ((first|refine Alz ?_|refine Adz ?_|refine Afz ?_|refine Agz ?_);simp (disch:=omega) only [push_cast,seval,l28r0,l28r1,l28r2,l28r3,hv])
 | ((first|refine Aaz ?_ ?_|refine Acz ?_ ?_|refine Abz ?_ ?_)<;>intro h<;>(try simp only [h])<;>(try simp only [bitvec_to_nat] at h)<;>(try simp only [h])<;>(first|(exfalso;omega)|(exfalso;simp_all;done)|(simp (disch:=omega) only [push_cast,seval,hv])|skip))
 | ((first|refine Anz false ?_|refine Amz false ?_);simp (disch:=omega) only [push_cast,seval,hv])
 | ((first|((first|refine call0D (BCall.ofP (Axz _ _ _ _ _ ?_ ?_ ?_)) ?_|refine qcall0D (BCall.ofP (Axz _ _ _ _ _ ?_ ?_ ?_)) ⟨_,_,rfl,rfl⟩ ?_);(iterate 3 (exact sd));rintro _ _ ⟨rfl,rfl⟩)|((first|refine call0D (overlap_ok _ _ _ _ _ _ _ _ _ _ ?_ ?_ ?_ ?_ ?_ ?_) ?_|refine qcall0D (overlap_ok _ _ _ _ _ _ _ _ _ _ ?_ ?_ ?_ ?_ ?_ ?_) ⟨_,_,rfl,rfl⟩ ?_);(iterate 6 (exact sd));rintro _ _ ⟨rfl,rfl⟩))<;>(try simp (disch:=omega) only [push_cast,seval,hv]))
 | (refine Aiz ⟨.inr rfl,[16000],[(16000,1)],_,by decide,rfl,?_⟩;(try simp (disch:=omega) only [push_cast,seval,↓Ajz,↓Ahz,↓List.map_cons,↓List.map_nil,hv]))))
    all_goals simp [OI,MVL]
  | true =>
  cases hv':vV b' sh' st' with
  | false =>
    (repeat' (first
 | (first|refine Akz ?_|refine Aez ?_)
 | ((first|refine Alz ?_|refine Adz ?_|refine Afz ?_|refine Agz ?_);simp (disch:=omega) only [push_cast,seval,l28r0,l28r1,l28r2,l28r3,hv,hv'])
 | ((first|refine Aaz ?_ ?_|refine Acz ?_ ?_|refine Abz ?_ ?_)<;>intro h<;>(try simp only [h])<;>(try simp only [bitvec_to_nat] at h)<;>(try simp only [h])<;>(first|(exfalso;omega)|(exfalso;simp_all;done)|(simp (disch:=omega) only [push_cast,seval,hv,hv'])|skip))
 | ((first|refine Anz false ?_|refine Amz false ?_);simp (disch:=omega) only [push_cast,seval,hv,hv'])
 | ((first|((first|refine call0D (BCall.ofP (Axz _ _ _ _ _ ?_ ?_ ?_)) ?_|refine qcall0D (BCall.ofP (Axz _ _ _ _ _ ?_ ?_ ?_)) ⟨_,_,rfl,rfl⟩ ?_);(iterate 3 (exact sd));rintro _ _ ⟨rfl,rfl⟩)|((first|refine call0D (overlap_ok _ _ _ _ _ _ _ _ _ _ ?_ ?_ ?_ ?_ ?_ ?_) ?_|refine qcall0D (overlap_ok _ _ _ _ _ _ _ _ _ _ ?_ ?_ ?_ ?_ ?_ ?_) ⟨_,_,rfl,rfl⟩ ?_);(iterate 6 (exact sd));rintro _ _ ⟨rfl,rfl⟩))<;>(try simp (disch:=omega) only [push_cast,seval,hv,hv']))
 | (refine Aiz ⟨.inr rfl,[16000],[(16000,1)],_,by decide,rfl,?_⟩;(try simp (disch:=omega) only [push_cast,seval,↓Ajz,↓Ahz,↓List.map_cons,↓List.map_nil,hv,hv']))))
    all_goals simp [OI,MVL]
  | true =>
    have hl:=Fgz (offs b sh st) (offs b' sh' st')
    have hok:=Efz hv
    have hok':=Efz hv'
    have hol:=Bmz b sh st
    have hol':=Bmz b' sh' st'
    have hp:=hok.1.1.2
    have hp':=hok'.1.1.2
    have h60:(offs b sh st).length ≤ 60:=by omega
    have h60':(offs b' sh' st').length ≤ 60:=by omega
    (repeat' (first
 | (first|refine Akz ?_|refine Aez ?_)
 | ((first|refine Alz ?_|refine Adz ?_|refine Afz ?_|refine Agz ?_);simp (disch:=omega) only [push_cast,seval,l28r0,l28r1,l28r2,l28r3,hv,hv'])
 | ((first|refine Aaz ?_ ?_|refine Acz ?_ ?_|refine Abz ?_ ?_)<;>intro h<;>(try simp only [h])<;>(try simp only [bitvec_to_nat] at h)<;>(try simp only [h])<;>(first|(exfalso;omega)|(exfalso;simp_all;done)|(simp (disch:=omega) only [push_cast,seval,hv,hv'])|skip))
 | ((first|refine Anz false ?_|refine Amz false ?_);simp (disch:=omega) only [push_cast,seval,hv,hv'])
 | ((first|((first|refine call0D (BCall.ofP (Axz _ _ _ _ _ ?_ ?_ ?_)) ?_|refine qcall0D (BCall.ofP (Axz _ _ _ _ _ ?_ ?_ ?_)) ⟨_,_,rfl,rfl⟩ ?_);(iterate 3 (exact sd));rintro _ _ ⟨rfl,rfl⟩)|((first|refine call0D (overlap_ok _ _ _ _ _ _ _ _ _ _ ?_ ?_ ?_ ?_ ?_ ?_) ?_|refine qcall0D (overlap_ok _ _ _ _ _ _ _ _ _ _ ?_ ?_ ?_ ?_ ?_ ?_) ⟨_,_,rfl,rfl⟩ ?_);(iterate 6 (exact sd));rintro _ _ ⟨rfl,rfl⟩))<;>(try simp (disch:=omega) only [push_cast,seval,hv,hv']))
 | (refine Aiz ⟨.inr rfl,[96],[],_,by decide,rfl,?_⟩;(try simp (disch:=omega) only [push_cast,seval,↓Ajz,↓Ahz,↓List.map_cons,↓List.map_nil,hv,hv']);(first|done|(show AV.own _ _ _=_ ∧ _)))
 | (refine Aiz ⟨.inr rfl,[160],[],_,by decide,rfl,?_⟩;(try simp (disch:=omega) only [push_cast,seval,↓Ajz,↓Ahz,↓List.map_cons,↓List.map_nil,hv,hv']);(first|done|(show AV.own _ _ _=_ ∧ _)))
 | (refine Aiz ⟨.inr rfl,[240],[],_,by decide,rfl,?_⟩;(try simp (disch:=omega) only [push_cast,seval,↓Ajz,↓Ahz,↓List.map_cons,↓List.map_nil,hv,hv']);(first|done|(show AV.own _ _ _=_ ∧ _)))))
    all_goals simp [OI,MVL]


set_option maxHeartbeats 8000000 in
theorem iDo_ok (b:Int) (sh st:List Int) (b':Int) (sh' st':List Int) (n m n' m':Nat) (hn:sh.length=n) (hm:st.length=m) (hn':sh'.length=n') (hm':st'.length=m') (hb:(n ≤ 1099511627776 ∧ m ≤ 1099511627776) ∧ n' ≤ 1099511627776 ∧ m' ≤ 1099511627776):PCall Tryd.prog 8 [.agg [.int .i64 b,.rows false (IL sh) n,.rows false (IL st) m],.agg [.int .i64 b',.rows false (IL sh') n',.rows false (IL st') m']] (fun r=>r=(.bool (doB b sh st b' sh' st'))):=by
  subst hn hm hn' hm'
  obtain ⟨⟨hb1,hb2⟩,hb3,hb4⟩:=hb
  refine Ayz l8_eq rfl ?_
  have hl:=Fgz (offs b sh st) (offs b' sh' st')
  have hl2:(MVL (ovB b sh st b' sh' st') (bothL (offs b sh st) (offs b' sh' st'))).length ≤ 60:=by unfold MVL;split<;>first|omega|simp
  unfold doB
  generalize hw:MVL (ovB b sh st b' sh' st') (bothL (offs b sh st) (offs b' sh' st'))=w at *
  (repeat' (first
 | (first|refine Akz ?_|refine Aez ?_)
 | ((first|refine Alz ?_|refine Adz ?_|refine Afz ?_|refine Agz ?_);simp (disch:=omega) only [push_cast,seval,l8r0,l8r1,hw])
 | ((first|refine Aaz ?_ ?_|refine Acz ?_ ?_|refine Abz ?_ ?_)<;>intro h<;>(try simp only [h])<;>(try simp only [bitvec_to_nat] at h)<;>(try simp only [h])<;>(first|(exfalso;omega)|(exfalso;simp_all;done)|(simp (disch:=omega) only [push_cast,seval,hw])|skip))
 | ((first|refine Anz false ?_|refine Amz false ?_);simp (disch:=omega) only [push_cast,seval,hw])
 | ((first|((first|refine call0D (iOv_ok _ _ _ _ _ _ _ _ _ _ ?_ ?_ ?_ ?_ ?_) ?_|refine qcall0D (iOv_ok _ _ _ _ _ _ _ _ _ _ ?_ ?_ ?_ ?_ ?_) ⟨_,_,rfl,rfl⟩ ?_);(iterate 5 (exact sd));rintro _ _ ⟨rfl,rfl⟩))<;>(try simp (disch:=omega) only [push_cast,seval,hw]))
 | (refine Aiz ⟨.inr rfl,_,rfl,?_⟩;(try simp (disch:=omega) only [push_cast,seval,hw]))))
  all_goals simp

end Go.Proofs.YtgiaepecaokcfaaDoor
set_option linter.unusedSimpArgs false
set_option linter.unusedVariables false
set_option maxRecDepth 4000
set_option maxHeartbeats 4000000
namespace Go.Proofs.YtgiaepecaokcfaaDoor
open VwM Vw Go

def fvb (al big:Bool) (s:List Int) (k:Int):Int:=fP al s k.toNat + (if big=true then s.getD k.toNat 0 - 1 else 0)
def fvh (s:List Int) (k many:Int):List Int:=[many,s.getD k.toNat 0]
def fvt (al big:Bool) (s:List Int):List Int:=[fN al s,if big=true then -1 else 1]
def fvB (al big:Bool) (s:List Int) (k many:Int):Bool:=(vF s && (decide (0 ≤ k) && decide (k ≤ (s.length:Int) - 1)) && decide (1 ≤ many)) && vV (fvb al big s k) (fvh s k many) (fvt al big s)
theorem fvB_f {al big:Bool} {s:List Int} {k many:Int} (h:vF s=false):fvB al big s k many=false:=by simp [fvB,h]
theorem fvB_k {al big:Bool} {s:List Int} {k many:Int} (h:¬ (0 ≤ k ∧ k ≤ (s.length:Int) - 1)):fvB al big s k many=false:=by
  have:(decide (0 ≤ k) && decide (k ≤ (s.length:Int) - 1))=false:=by
    rw [Bool.and_eq_false_iff,decide_eq_false_iff_not,decide_eq_false_iff_not];omega
  simp [fvB,this]
theorem fvB_m {al big:Bool} {s:List Int} {k many:Int} (h:¬ (1 ≤ many ∧ many ≤ 60)):fvB al big s k many=false:=by
  by_cases h1:1 ≤ many
  · cases hv:vV (fvb al big s k) (fvh s k many) (fvt al big s) with
    | false=>simp [fvB,hv]
    | true =>
      have:=(Boz (vV_spec.1 hv).1).1.1 many (by simp [fvh])
      omega
  · simp [fvB,h1]
theorem fvB_in {al big:Bool} {s:List Int} {k many:Int} (h:vF s=true) (h1:0 ≤ k ∧ k ≤ (s.length:Int) - 1) (h2:1 ≤ many):fvB al big s k many=vV (fvb al big s k) (fvh s k many) (fvt al big s):=by simp [fvB,h,h1.1,h1.2,h2]


theorem smade22_ok (b x y z u:Int):BCall Tryd.prog 26 [.agg [.int .i64 b,.rows false [.int .i64 x,.int .i64 y] 2,.rows false [.int .i64 z,.int .i64 u] 2]] [] (MV (vV b [x,y] [z,u]) b [x,y] [z,u]):=smade_ok b [x,y] [z,u] 2 2 rfl rfl (by decide)


set_option maxHeartbeats 8000000 in
theorem sFV_ok (s:List Int) (n:Nat) (big al:Bool) (k many:Int) (hn:s.length=n) (hb:n ≤ 1099511627776):BCall Tryd.prog 6 [.agg [.rows false (IL s) n,.bool big,.bool al],.int .i64 k,.int .i64 many] [] (MV (fvB al big s k many) (fvb al big s k) (fvh s k many) (fvt al big s)):=by
  subst hn
  refine A3z (pins:=[]) (pin:=0) l6_eq rfl rfl rfl ?_
  cases hv:vF s with
  | false =>
    rw [fvB_f hv]
    (repeat' (first
 | (first|refine Akz ?_|refine Aez ?_)
 | ((first|refine Alz ?_|refine Atz (mid:=l6r4a) (post:=l6r4b) mixed (by decide) ?_|refine Atz (mid:=l6r6a) (post:=l6r6b) mixed (by decide) ?_|refine Adz ?_|refine Afz ?_|refine Agz ?_);simp (disch:=omega) only [push_cast,seval,l6r0,l6r1,l6r2,l6r3,l6r4a,l6r4b,l6r4,l6r5,l6r6a,l6r6b,l6r6,l6r7,l6r8,hv])
 | ((first|refine Aaz ?_ ?_|refine Acz ?_ ?_|refine Abz ?_ ?_)<;>intro h<;>(try simp only [h])<;>(try simp only [bitvec_to_nat] at h)<;>(try simp only [h])<;>(first|(exfalso;omega)|(exfalso;simp_all;done)|(simp (disch:=omega) only [push_cast,seval,hv])|skip))
 | ((first|refine Anz false ?_|refine Amz false ?_);simp (disch:=omega) only [push_cast,seval,hv])
 | ((first|((first|refine call0D (BCall.ofP (Buz _ _ _ _ ?_ ?_)) ?_|refine qcall0D (BCall.ofP (Buz _ _ _ _ ?_ ?_)) ⟨_,_,rfl,rfl⟩ ?_);(iterate 2 (exact sd));rintro _ _ ⟨rfl,rfl⟩)|((first|refine call0D (BCall.ofP (inRange_ok _ _ _)) ?_|refine qcall0D (BCall.ofP (inRange_ok _ _ _)) ⟨_,_,rfl,rfl⟩ ?_);rintro _ _ ⟨rfl,rfl⟩)|((first|refine call0D (splaces_ok _ _ _ _ ?_ ?_) ?_|refine qcall0D (splaces_ok _ _ _ _ ?_ ?_) ⟨_,_,rfl,rfl⟩ ?_);(iterate 2 (exact sd));rintro _ _ ⟨rfl,rfl⟩)|((first|refine call0D (smade22_ok _ _ _ _ _) ?_|refine qcall0D (smade22_ok _ _ _ _ _) ⟨_,_,rfl,rfl⟩ ?_);rintro _ _ ⟨rfl,rfl⟩))<;>(try simp (disch:=omega) only [push_cast,seval,hv]))
 | (refine Aiz ⟨.inr rfl,[16000,16016],[(16000,1),(16016,1)],_,by decide,rfl,?_⟩;(try simp (disch:=omega) only [push_cast,seval,↓Ajz,↓Ahz,↓List.map_cons,↓List.map_nil,hv]))))
    all_goals simp [MV,MVB,MVL]
  | true =>
    by_cases hk:0 ≤ k ∧ k ≤ (s.length:Int) - 1
    · by_cases hm:1 ≤ many ∧ many ≤ 60
      · rw [fvB_in hv hk hm.1]
        obtain ⟨j,rfl⟩:=Int.eq_ofNat_of_zero_le hk.1
        have hj:j < s.length:=by omega
        obtain ⟨r1,r2,r3,r4,r5,r6,r7,r8⟩:=D1z (al:=al) hv hj
        obtain ⟨hm1,hm2⟩:=hm
        obtain ⟨hk1,hk2⟩:=hk
        have hfn:=(Hgz (al:=al) hv).2
        have hpg:(fPL al s).getD j 0=fP al s j:=fPL_getD hj
        have hpl:=Gtz al s
        have hh:fvh s j many=[many,s.getD j 0]:=by simp [fvh]
        cases big with
        | false =>
          have hbb:fvb al false s j=fP al s j:=by simp [fvb]
          have ht:fvt al false s=[fN al s,1]:=by simp [fvt]
          rw [hh,hbb,ht]
          generalize hP:fP al s j=P at *
          generalize hZ:s.getD j 0=Z at *
          generalize hN:fN al s=N at *
          generalize hQ:fPL al s=Q at *
          (repeat' (first
 | (first|refine Akz ?_|refine Aez ?_)
 | ((first|refine Alz ?_|refine Atz (mid:=l6r4a) (post:=l6r4b) mixed (by decide) ?_|refine Atz (mid:=l6r6a) (post:=l6r6b) mixed (by decide) ?_|refine Adz ?_|refine Afz ?_|refine Agz ?_);simp (disch:=omega) only [push_cast,seval,l6r0,l6r1,l6r2,l6r3,l6r4a,l6r4b,l6r4,l6r5,l6r6a,l6r6b,l6r6,l6r7,l6r8,hv,hk1,hk2,hm1,hm2,hQ,hN,hpg,hpl,hZ])
 | ((first|refine Aaz ?_ ?_|refine Acz ?_ ?_|refine Abz ?_ ?_)<;>intro h<;>(try simp only [h])<;>(try simp only [bitvec_to_nat] at h)<;>(try simp only [h])<;>(first|(exfalso;omega)|(exfalso;simp_all;done)|(simp (disch:=omega) only [push_cast,seval,hv,hk1,hk2,hm1,hm2,hQ,hN,hpg,hpl,hZ])|skip))
 | ((first|refine Anz false ?_|refine Amz false ?_);simp (disch:=omega) only [push_cast,seval,hv,hk1,hk2,hm1,hm2,hQ,hN,hpg,hpl,hZ])
 | ((first|((first|refine call0D (BCall.ofP (Buz _ _ _ _ ?_ ?_)) ?_|refine qcall0D (BCall.ofP (Buz _ _ _ _ ?_ ?_)) ⟨_,_,rfl,rfl⟩ ?_);(iterate 2 (exact sd));rintro _ _ ⟨rfl,rfl⟩)|((first|refine call0D (BCall.ofP (inRange_ok _ _ _)) ?_|refine qcall0D (BCall.ofP (inRange_ok _ _ _)) ⟨_,_,rfl,rfl⟩ ?_);rintro _ _ ⟨rfl,rfl⟩)|((first|refine call0D (splaces_ok _ _ _ _ ?_ ?_) ?_|refine qcall0D (splaces_ok _ _ _ _ ?_ ?_) ⟨_,_,rfl,rfl⟩ ?_);(iterate 2 (exact sd));rintro _ _ ⟨rfl,rfl⟩)|((first|refine call0D (smade22_ok _ _ _ _ _) ?_|refine qcall0D (smade22_ok _ _ _ _ _) ⟨_,_,rfl,rfl⟩ ?_);rintro _ _ ⟨rfl,rfl⟩))<;>(try simp (disch:=omega) only [push_cast,seval,hv,hk1,hk2,hm1,hm2,hQ,hN,hpg,hpl,hZ]))
 | (refine Aiz ⟨.inr rfl,[1056,1057],[],_,by decide,rfl,?_⟩; (try simp (disch := omega) only [push_cast,seval,↓Ajz,↓Ahz,↓List.map_cons,↓List.map_nil,hv,hk1,hk2,hm1,hm2,hQ,hN,hpg,hpl,hZ]))))
          all_goals simp [MV,MVB,MVL]
        | true =>
          have hbb:fvb al true s j=fP al s j + s.getD j 0 - 1:=by simp [fvb];omega
          have ht:fvt al true s=[fN al s,-1]:=by simp [fvt]
          rw [hh,hbb,ht]
          generalize hP:fP al s j=P at *
          generalize hZ:s.getD j 0=Z at *
          generalize hN:fN al s=N at *
          generalize hQ:fPL al s=Q at *
          (repeat' (first
 | (first|refine Akz ?_|refine Aez ?_)
 | ((first|refine Alz ?_|refine Atz (mid:=l6r4a) (post:=l6r4b) mixed (by decide) ?_|refine Atz (mid:=l6r6a) (post:=l6r6b) mixed (by decide) ?_|refine Adz ?_|refine Afz ?_|refine Agz ?_);simp (disch:=omega) only [push_cast,seval,l6r0,l6r1,l6r2,l6r3,l6r4a,l6r4b,l6r4,l6r5,l6r6a,l6r6b,l6r6,l6r7,l6r8,hv,hk1,hk2,hm1,hm2,hQ,hN,hpg,hpl,hZ])
 | ((first|refine Aaz ?_ ?_|refine Acz ?_ ?_|refine Abz ?_ ?_)<;>intro h<;>(try simp only [h])<;>(try simp only [bitvec_to_nat] at h)<;>(try simp only [h])<;>(first|(exfalso;omega)|(exfalso;simp_all;done)|(simp (disch:=omega) only [push_cast,seval,hv,hk1,hk2,hm1,hm2,hQ,hN,hpg,hpl,hZ])|skip))
 | ((first|refine Anz false ?_|refine Amz false ?_);simp (disch:=omega) only [push_cast,seval,hv,hk1,hk2,hm1,hm2,hQ,hN,hpg,hpl,hZ])
 | ((first|((first|refine call0D (BCall.ofP (Buz _ _ _ _ ?_ ?_)) ?_|refine qcall0D (BCall.ofP (Buz _ _ _ _ ?_ ?_)) ⟨_,_,rfl,rfl⟩ ?_);(iterate 2 (exact sd));rintro _ _ ⟨rfl,rfl⟩)|((first|refine call0D (BCall.ofP (inRange_ok _ _ _)) ?_|refine qcall0D (BCall.ofP (inRange_ok _ _ _)) ⟨_,_,rfl,rfl⟩ ?_);rintro _ _ ⟨rfl,rfl⟩)|((first|refine call0D (splaces_ok _ _ _ _ ?_ ?_) ?_|refine qcall0D (splaces_ok _ _ _ _ ?_ ?_) ⟨_,_,rfl,rfl⟩ ?_);(iterate 2 (exact sd));rintro _ _ ⟨rfl,rfl⟩)|((first|refine call0D (smade22_ok _ _ _ _ _) ?_|refine qcall0D (smade22_ok _ _ _ _ _) ⟨_,_,rfl,rfl⟩ ?_);rintro _ _ ⟨rfl,rfl⟩))<;>(try simp (disch:=omega) only [push_cast,seval,hv,hk1,hk2,hm1,hm2,hQ,hN,hpg,hpl,hZ]))
 | (refine Aiz ⟨.inr rfl,[1056,1057],[],_,by decide,rfl,?_⟩; (try simp (disch := omega) only [push_cast,seval,↓Ajz,↓Ahz,↓List.map_cons,↓List.map_nil,hv,hk1,hk2,hm1,hm2,hQ,hN,hpg,hpl,hZ]))))
          all_goals simp [MV,MVB,MVL]
      · rw [fvB_m hm]
        have hw:(decide (1 ≤ many) && decide (many ≤ 60))=false:=by
          rw [Bool.and_eq_false_iff,decide_eq_false_iff_not,decide_eq_false_iff_not];omega
        obtain ⟨hk1,hk2⟩:=hk
        (repeat' (first
 | (first|refine Akz ?_|refine Aez ?_)
 | ((first|refine Alz ?_|refine Atz (mid:=l6r4a) (post:=l6r4b) mixed (by decide) ?_|refine Atz (mid:=l6r6a) (post:=l6r6b) mixed (by decide) ?_|refine Adz ?_|refine Afz ?_|refine Agz ?_);simp (disch:=omega) only [push_cast,seval,l6r0,l6r1,l6r2,l6r3,l6r4a,l6r4b,l6r4,l6r5,l6r6a,l6r6b,l6r6,l6r7,l6r8,hv,hk1,hk2,hw])
 | ((first|refine Aaz ?_ ?_|refine Acz ?_ ?_|refine Abz ?_ ?_)<;>intro h<;>(try simp only [h])<;>(try simp only [bitvec_to_nat] at h)<;>(try simp only [h])<;>(first|(exfalso;omega)|(exfalso;simp_all;done)|(simp (disch:=omega) only [push_cast,seval,hv,hk1,hk2,hw])|skip))
 | ((first|refine Anz false ?_|refine Amz false ?_);simp (disch:=omega) only [push_cast,seval,hv,hk1,hk2,hw])
 | ((first|((first|refine call0D (BCall.ofP (Buz _ _ _ _ ?_ ?_)) ?_|refine qcall0D (BCall.ofP (Buz _ _ _ _ ?_ ?_)) ⟨_,_,rfl,rfl⟩ ?_);(iterate 2 (exact sd));rintro _ _ ⟨rfl,rfl⟩)|((first|refine call0D (BCall.ofP (inRange_ok _ _ _)) ?_|refine qcall0D (BCall.ofP (inRange_ok _ _ _)) ⟨_,_,rfl,rfl⟩ ?_);rintro _ _ ⟨rfl,rfl⟩)|((first|refine call0D (splaces_ok _ _ _ _ ?_ ?_) ?_|refine qcall0D (splaces_ok _ _ _ _ ?_ ?_) ⟨_,_,rfl,rfl⟩ ?_);(iterate 2 (exact sd));rintro _ _ ⟨rfl,rfl⟩)|((first|refine call0D (smade22_ok _ _ _ _ _) ?_|refine qcall0D (smade22_ok _ _ _ _ _) ⟨_,_,rfl,rfl⟩ ?_);rintro _ _ ⟨rfl,rfl⟩))<;>(try simp (disch:=omega) only [push_cast,seval,hv,hk1,hk2,hw]))
 | (refine Aiz ⟨.inr rfl,[16000,16016],[(16000,1),(16016,1)],_,by decide,rfl,?_⟩;(try simp (disch:=omega) only [push_cast,seval,↓Ajz,↓Ahz,↓List.map_cons,↓List.map_nil,hv,hk1,hk2,hw]))))
        all_goals simp [MV,MVB,MVL]
    · rw [fvB_k hk]
      have hw:(decide (0 ≤ k) && decide (k ≤ (s.length:Int) - 1))=false:=by
        rw [Bool.and_eq_false_iff,decide_eq_false_iff_not,decide_eq_false_iff_not];omega
      (repeat' (first
 | (first|refine Akz ?_|refine Aez ?_)
 | ((first|refine Alz ?_|refine Atz (mid:=l6r4a) (post:=l6r4b) mixed (by decide) ?_|refine Atz (mid:=l6r6a) (post:=l6r6b) mixed (by decide) ?_|refine Adz ?_|refine Afz ?_|refine Agz ?_);simp (disch:=omega) only [push_cast,seval,l6r0,l6r1,l6r2,l6r3,l6r4a,l6r4b,l6r4,l6r5,l6r6a,l6r6b,l6r6,l6r7,l6r8,hv,hw])
 | ((first|refine Aaz ?_ ?_|refine Acz ?_ ?_|refine Abz ?_ ?_)<;>intro h<;>(try simp only [h])<;>(try simp only [bitvec_to_nat] at h)<;>(try simp only [h])<;>(first|(exfalso;omega)|(exfalso;simp_all;done)|(simp (disch:=omega) only [push_cast,seval,hv,hw])|skip))
 | ((first|refine Anz false ?_|refine Amz false ?_);simp (disch:=omega) only [push_cast,seval,hv,hw])
 | ((first|((first|refine call0D (BCall.ofP (Buz _ _ _ _ ?_ ?_)) ?_|refine qcall0D (BCall.ofP (Buz _ _ _ _ ?_ ?_)) ⟨_,_,rfl,rfl⟩ ?_);(iterate 2 (exact sd));rintro _ _ ⟨rfl,rfl⟩)|((first|refine call0D (BCall.ofP (inRange_ok _ _ _)) ?_|refine qcall0D (BCall.ofP (inRange_ok _ _ _)) ⟨_,_,rfl,rfl⟩ ?_);rintro _ _ ⟨rfl,rfl⟩)|((first|refine call0D (splaces_ok _ _ _ _ ?_ ?_) ?_|refine qcall0D (splaces_ok _ _ _ _ ?_ ?_) ⟨_,_,rfl,rfl⟩ ?_);(iterate 2 (exact sd));rintro _ _ ⟨rfl,rfl⟩)|((first|refine call0D (smade22_ok _ _ _ _ _) ?_|refine qcall0D (smade22_ok _ _ _ _ _) ⟨_,_,rfl,rfl⟩ ?_);rintro _ _ ⟨rfl,rfl⟩))<;>(try simp (disch:=omega) only [push_cast,seval,hv,hw]))
 | (refine Aiz ⟨.inr rfl,[16000,16016],[(16000,1),(16016,1)],_,by decide,rfl,?_⟩;(try simp (disch:=omega) only [push_cast,seval,↓Ajz,↓Ahz,↓List.map_cons,↓List.map_nil,hv,hw]))))
      all_goals simp [MV,MVB,MVL]

end Go.Proofs.YtgiaepecaokcfaaDoor
set_option linter.unusedSimpArgs false
set_option linter.unusedVariables false
set_option maxRecDepth 4000
set_option maxHeartbeats 4000000
namespace Go.Proofs.YtgiaepecaokcfaaDoor
open VwM Vw Go

theorem shapeOf2_ok (x y:Int):BCall Tryd.prog 20 [.rows false [.int .i64 x,.int .i64 y] 2] [] (OI [x,y]):=shapeOf_ok [x,y] 2 rfl (by decide)


theorem iVV22_ok (b x y z u:Int):PCall Tryd.prog 22 [.agg [.int .i64 b,.rows false [.int .i64 x,.int .i64 y] 2,.rows false [.int .i64 z,.int .i64 u] 2]] (fun r=>r=.bool (vV b [x,y] [z,u])):=Axz b [x,y] [z,u] 2 2 rfl rfl (by decide)


set_option maxRecDepth 20000 in
set_option maxHeartbeats 16000000 in
theorem iFV_ok (s:List Int) (n:Nat) (big al:Bool) (k many:Int) (hn:s.length=n) (hb:n ≤ 1099511627776):BCall Tryd.prog 5 [.agg [.rows false (IL s) n,.bool big,.bool al],.int .i64 k,.int .i64 many] [] (MV (fvB al big s k many) (fvb al big s k) (fvh s k many) (fvt al big s)):=by
  subst hn
  refine A3z (pins:=[]) (pin:=0) l5_eq rfl rfl rfl ?_
  cases hv:vF s with
  | false =>
    rw [fvB_f hv]
    (repeat' (first
 | (first|refine Akz ?_|refine Aez ?_)
 | ((first|refine Alz ?_|refine Atz (mid:=l5r3a) (post:=l5r3b) mixed (by decide) ?_|refine Atz (mid:=l5r5a) (post:=l5r5b) mixed (by decide) ?_|refine Adz ?_|refine Afz ?_|refine Agz ?_);simp (disch:=omega) only [push_cast,seval,l5r0,l5r1,l5r2,l5r3a,l5r3b,l5r3,l5r4,l5r5a,l5r5b,l5r5,l5r6,l5r7,l5r8,hv])
 | ((first|refine Aaz ?_ ?_|refine Acz ?_ ?_|refine Abz ?_ ?_)<;>intro h<;>(try simp only [h])<;>(try simp only [bitvec_to_nat] at h)<;>(try simp only [h])<;>(first|(exfalso;omega)|(exfalso;simp_all;done)|(simp (disch:=omega) only [push_cast,seval,hv])|skip))
 | ((first|refine Anz false ?_|refine Amz false ?_);simp (disch:=omega) only [push_cast,seval,hv])
 | ((first|((first|refine call0D (BCall.ofP (Blz _ _ _ _ ?_ ?_)) ?_|refine qcall0D (BCall.ofP (Blz _ _ _ _ ?_ ?_)) ⟨_,_,rfl,rfl⟩ ?_);(iterate 2 (exact sd));rintro _ _ ⟨rfl,rfl⟩)|((first|refine call0D (BCall.ofP (upTo_ok _ _)) ?_|refine qcall0D (BCall.ofP (upTo_ok _ _)) ⟨_,_,rfl,rfl⟩ ?_);rintro _ _ ⟨rfl,rfl⟩)|((first|refine call0D (ifields_ok _ _ _ _ ?_ ?_) ?_|refine qcall0D (ifields_ok _ _ _ _ ?_ ?_) ⟨_,_,rfl,rfl⟩ ?_);(iterate 2 (exact sd));rintro _ _ ⟨rfl,rfl⟩)|((first|refine call0D (BCall.ofP (order_ok _ _ _ _)) ?_|refine qcall0D (BCall.ofP (order_ok _ _ _ _)) ⟨_,_,rfl,rfl⟩ ?_);rintro _ _ ⟨rfl,rfl⟩)|((first|refine call0D (BCall.ofP (cellH_ok _ _ _ ?_)) ?_|refine qcall0D (BCall.ofP (cellH_ok _ _ _ ?_)) ⟨_,_,rfl,rfl⟩ ?_);(exact sd);rintro _ _ ⟨rfl,rfl⟩)|((first|refine call0D (BCall.ofP (cellL_ok _ _ _ ?_)) ?_|refine qcall0D (BCall.ofP (cellL_ok _ _ _ ?_)) ⟨_,_,rfl,rfl⟩ ?_);(exact sd);rintro _ _ ⟨rfl,rfl⟩)|((first|refine call0D (shapeOf2_ok _ _) ?_|refine qcall0D (shapeOf2_ok _ _) ⟨_,_,rfl,rfl⟩ ?_);rintro _ _ ⟨rfl,rfl⟩)|((first|refine call0D (BCall.ofP (isz_ok _ _ _ _ ?_ ?_)) ?_|refine qcall0D (BCall.ofP (isz_ok _ _ _ _ ?_ ?_)) ⟨_,_,rfl,rfl⟩ ?_);(iterate 2 (exact sd));rintro _ _ ⟨rfl,rfl⟩)|((first|refine call0D (BCall.ofP (iVV22_ok _ _ _ _ _)) ?_|refine qcall0D (BCall.ofP (iVV22_ok _ _ _ _ _)) ⟨_,_,rfl,rfl⟩ ?_);rintro _ _ ⟨rfl,rfl⟩))<;>(try simp (disch:=omega) only [push_cast,seval,hv]))
 | (refine Aiz ⟨.inr rfl,[16000,16016],[(16000,1),(16016,1)],_,by decide,rfl,?_⟩;(try simp (disch:=omega) only [push_cast,seval,↓Ajz,↓Ahz,↓List.map_cons,↓List.map_nil,hv]))))
    all_goals simp [MV,MVB,MVL]
  | true =>
    by_cases hk:0 ≤ k ∧ k ≤ (s.length:Int) - 1
    · by_cases hm:1 ≤ many
      · rw [fvB_in hv hk hm]
        obtain ⟨j,rfl⟩:=Int.eq_ofNat_of_zero_le hk.1
        have hj:j < s.length:=by omega
        obtain ⟨r1,r2,r3,r4,r5,r6,r7,r8⟩:=D1z (al:=al) hv hj
        obtain ⟨hk1,hk2⟩:=hk
        have hfn:=(Hgz (al:=al) hv).2
        have g:=Hhz (al:=al) (s:=s) (n:=s.length) (k:=j) hj
        have hfl:=fL2_length al s s.length
        have htd:=td2 (by omega) g.1 g.2
        have hif:j * 2 + 2 ≤ s.length * 2:=by omega
        have hh:fvh s j many=[many,s.getD j 0]:=by simp [fvh]
        cases big with
        | false =>
          have hbb:fvb al false s j=fP al s j:=by simp [fvb]
          have ht:fvt al false s=[fN al s,1]:=by simp [fvt]
          rw [hh,hbb,ht]
          clear g r6 r7 r8
          generalize hP:fP al s j=P at *
          generalize hZ:s.getD j 0=Z at *
          generalize hN:fN al s=N at *
          generalize hQ:fL2 al s s.length=Q at *
          have e1:P + 1 - (P + 0)=1:=by omega
          have e2:P + 1 - P=1:=by omega
          cases hvv:vV P [many,Z] [N,1] with
          | false =>
            (repeat' (first
 | (first|refine Akz ?_|refine Aez ?_)
 | ((first|refine Alz ?_|refine Atz (mid:=l5r3a) (post:=l5r3b) mixed (by decide) ?_|refine Drz (mid:=l5r5a) (post:=l5r5b) 43 [] mixed (by decide) ?_|refine Adz ?_|refine Afz ?_|refine Agz ?_);simp (disch:=omega) only [push_cast,seval,l5r0,l5r1,l5r2,l5r3a,l5r3b,l5r3,l5r4,l5r5a,l5r5b,l5r5,l5r6,l5r7,l5r8,hv,hk1,hk2,hm,hQ,hN,htd,hif,hfl,hZ,hvv,e1,e2,Int.add_zero,List.length_map])
 | ((first|refine Aaz ?_ ?_|refine Acz ?_ ?_|refine Abz ?_ ?_)<;>intro h<;>(try simp only [h])<;>(try simp only [bitvec_to_nat] at h)<;>(try simp only [h])<;>(first|(exfalso;omega)|(exfalso;simp_all;done)|(simp (disch:=omega) only [push_cast,seval,hv,hk1,hk2,hm,hQ,hN,htd,hif,hfl,hZ,hvv,e1,e2,Int.add_zero,List.length_map])|skip))
 | ((first|refine Anz false ?_|refine Amz false ?_);simp (disch:=omega) only [push_cast,seval,hv,hk1,hk2,hm,hQ,hN,htd,hif,hfl,hZ,hvv,e1,e2,Int.add_zero,List.length_map])
 | ((first|((first|refine call0D (BCall.ofP (Blz _ _ _ _ ?_ ?_)) ?_|refine qcall0D (BCall.ofP (Blz _ _ _ _ ?_ ?_)) ⟨_,_,rfl,rfl⟩ ?_);(iterate 2 (exact sd));rintro _ _ ⟨rfl,rfl⟩)|((first|refine call0D (BCall.ofP (upTo_ok _ _)) ?_|refine qcall0D (BCall.ofP (upTo_ok _ _)) ⟨_,_,rfl,rfl⟩ ?_);rintro _ _ ⟨rfl,rfl⟩)|((first|refine call0D (ifields_ok _ _ _ _ ?_ ?_) ?_|refine qcall0D (BCall.ofP (plain2 (ifields_ok _ _ _ _ ?_ ?_) (fL2_length _ _ _))) ⟨_,_,rfl,rfl⟩ ?_);(iterate 2 (exact sd));rintro _ _ ⟨rfl,rfl⟩)|((first|refine call0D (BCall.ofP (order_ok _ _ _ _)) ?_|refine qcall0D (BCall.ofP (order_ok _ _ _ _)) ⟨_,_,rfl,rfl⟩ ?_);rintro _ _ ⟨rfl,rfl⟩)|((first|refine call0D (BCall.ofP (cellH_ok _ _ _ ?_)) ?_|refine qcall0D (BCall.ofP (cellH_ok _ _ _ ?_)) ⟨_,_,rfl,rfl⟩ ?_);(exact sd);rintro _ _ ⟨rfl,rfl⟩)|((first|refine call0D (BCall.ofP (cellL_ok _ _ _ ?_)) ?_|refine qcall0D (BCall.ofP (cellL_ok _ _ _ ?_)) ⟨_,_,rfl,rfl⟩ ?_);(exact sd);rintro _ _ ⟨rfl,rfl⟩)|((first|refine call0D (shapeOf2_ok _ _) ?_|refine qcall0D (shapeOf2_ok _ _) ⟨_,_,rfl,rfl⟩ ?_);rintro _ _ ⟨rfl,rfl⟩)|((first|refine call0D (BCall.ofP (isz_ok _ _ _ _ ?_ ?_)) ?_|refine qcall0D (BCall.ofP (isz_ok _ _ _ _ ?_ ?_)) ⟨_,_,rfl,rfl⟩ ?_);(iterate 2 (exact sd));rintro _ _ ⟨rfl,rfl⟩)|((first|refine call0D (BCall.ofP (iVV22_ok _ _ _ _ _)) ?_|refine qcall0D (BCall.ofP (iVV22_ok _ _ _ _ _)) ⟨_,_,rfl,rfl⟩ ?_);rintro _ _ ⟨rfl,rfl⟩))<;>(try simp (disch:=omega) only [push_cast,seval,hv,hk1,hk2,hm,hQ,hN,htd,hif,hfl,hZ,hvv,e1,e2,Int.add_zero,List.length_map]))
 | (refine Aiz ⟨.inr rfl,[16000,16016],[(16000,1),(16016,1)],_,by decide,rfl,?_⟩; (try simp (disch := omega) only [push_cast,seval,↓Ajz,↓Ahz,↓List.map_cons,↓List.map_nil,hv,hk1,hk2,hm,hQ,hN,htd,hif,hfl,hZ,hvv,e1,e2,Int.add_zero,List.length_map]))))
            all_goals simp [MV,MVB,MVL]
          | true =>
            (repeat' (first
 | (first|refine Akz ?_|refine Aez ?_)
 | ((first|refine Alz ?_|refine Atz (mid:=l5r3a) (post:=l5r3b) mixed (by decide) ?_|refine Drz (mid:=l5r5a) (post:=l5r5b) 43 [] mixed (by decide) ?_|refine Adz ?_|refine Afz ?_|refine Agz ?_);simp (disch:=omega) only [push_cast,seval,l5r0,l5r1,l5r2,l5r3a,l5r3b,l5r3,l5r4,l5r5a,l5r5b,l5r5,l5r6,l5r7,l5r8,hv,hk1,hk2,hm,hQ,hN,htd,hif,hfl,hZ,hvv,e1,e2,Int.add_zero,List.length_map])
 | ((first|refine Aaz ?_ ?_|refine Acz ?_ ?_|refine Abz ?_ ?_)<;>intro h<;>(try simp only [h])<;>(try simp only [bitvec_to_nat] at h)<;>(try simp only [h])<;>(first|(exfalso;omega)|(exfalso;simp_all;done)|(simp (disch:=omega) only [push_cast,seval,hv,hk1,hk2,hm,hQ,hN,htd,hif,hfl,hZ,hvv,e1,e2,Int.add_zero,List.length_map])|skip))
 | ((first|refine Anz false ?_|refine Amz false ?_);simp (disch:=omega) only [push_cast,seval,hv,hk1,hk2,hm,hQ,hN,htd,hif,hfl,hZ,hvv,e1,e2,Int.add_zero,List.length_map])
 | ((first|((first|refine call0D (BCall.ofP (Blz _ _ _ _ ?_ ?_)) ?_|refine qcall0D (BCall.ofP (Blz _ _ _ _ ?_ ?_)) ⟨_,_,rfl,rfl⟩ ?_);(iterate 2 (exact sd));rintro _ _ ⟨rfl,rfl⟩)|((first|refine call0D (BCall.ofP (upTo_ok _ _)) ?_|refine qcall0D (BCall.ofP (upTo_ok _ _)) ⟨_,_,rfl,rfl⟩ ?_);rintro _ _ ⟨rfl,rfl⟩)|((first|refine call0D (ifields_ok _ _ _ _ ?_ ?_) ?_|refine qcall0D (BCall.ofP (plain2 (ifields_ok _ _ _ _ ?_ ?_) (fL2_length _ _ _))) ⟨_,_,rfl,rfl⟩ ?_);(iterate 2 (exact sd));rintro _ _ ⟨rfl,rfl⟩)|((first|refine call0D (BCall.ofP (order_ok _ _ _ _)) ?_|refine qcall0D (BCall.ofP (order_ok _ _ _ _)) ⟨_,_,rfl,rfl⟩ ?_);rintro _ _ ⟨rfl,rfl⟩)|((first|refine call0D (BCall.ofP (cellH_ok _ _ _ ?_)) ?_|refine qcall0D (BCall.ofP (cellH_ok _ _ _ ?_)) ⟨_,_,rfl,rfl⟩ ?_);(exact sd);rintro _ _ ⟨rfl,rfl⟩)|((first|refine call0D (BCall.ofP (cellL_ok _ _ _ ?_)) ?_|refine qcall0D (BCall.ofP (cellL_ok _ _ _ ?_)) ⟨_,_,rfl,rfl⟩ ?_);(exact sd);rintro _ _ ⟨rfl,rfl⟩)|((first|refine call0D (shapeOf2_ok _ _) ?_|refine qcall0D (shapeOf2_ok _ _) ⟨_,_,rfl,rfl⟩ ?_);rintro _ _ ⟨rfl,rfl⟩)|((first|refine call0D (BCall.ofP (isz_ok _ _ _ _ ?_ ?_)) ?_|refine qcall0D (BCall.ofP (isz_ok _ _ _ _ ?_ ?_)) ⟨_,_,rfl,rfl⟩ ?_);(iterate 2 (exact sd));rintro _ _ ⟨rfl,rfl⟩)|((first|refine call0D (BCall.ofP (iVV22_ok _ _ _ _ _)) ?_|refine qcall0D (BCall.ofP (iVV22_ok _ _ _ _ _)) ⟨_,_,rfl,rfl⟩ ?_);rintro _ _ ⟨rfl,rfl⟩))<;>(try simp (disch:=omega) only [push_cast,seval,hv,hk1,hk2,hm,hQ,hN,htd,hif,hfl,hZ,hvv,e1,e2,Int.add_zero,List.length_map]))
 | (refine Aiz ⟨.inr rfl,[704,832],[],_,by decide,rfl,?_⟩; (try simp (disch := omega) only [push_cast,seval,↓Ajz,↓Ahz,↓List.map_cons,↓List.map_nil,hv,hk1,hk2,hm,hQ,hN,htd,hif,hfl,hZ,hvv,e1,e2,Int.add_zero,List.length_map]))))
            all_goals simp [MV,MVB,MVL]
        | true =>
          have hbb:fvb al true s j=fP al s j + s.getD j 0 - 1:=by simp [fvb];omega
          have ht:fvt al true s=[fN al s,-1]:=by simp [fvt]
          rw [hh,hbb,ht]
          clear g r6 r7 r8
          generalize hP:fP al s j=P at *
          generalize hZ:s.getD j 0=Z at *
          generalize hN:fN al s=N at *
          generalize hQ:fL2 al s s.length=Q at *
          have e0:P + (Z - 1 - 0)=P + Z - 1:=by omega
          have e1:P + (Z - 1 - 1) - (P + (Z - 1 - 0))=-1:=by omega
          have e2:P + (Z - 1 - 1) - (P + Z - 1)=-1:=by omega
          have e3:P + (Z - 1 - 1) - (P + (Z - 1))=-1:=by omega
          have e4:P + (Z - 1)=P + Z - 1:=by omega
          cases hvv:vV (P + Z - 1) [many,Z] [N,-1] with
          | false =>
            (repeat' (first
 | (first|refine Akz ?_|refine Aez ?_)
 | ((first|refine Alz ?_|refine Atz (mid:=l5r3a) (post:=l5r3b) mixed (by decide) ?_|refine Drz (mid:=l5r5a) (post:=l5r5b) 43 [] mixed (by decide) ?_|refine Adz ?_|refine Afz ?_|refine Agz ?_);simp (disch:=omega) only [push_cast,seval,l5r0,l5r1,l5r2,l5r3a,l5r3b,l5r3,l5r4,l5r5a,l5r5b,l5r5,l5r6,l5r7,l5r8,hv,hk1,hk2,hm,hQ,hN,htd,hif,hfl,hZ,hvv,e1,e2,e3,e0,e4,List.length_map])
 | ((first|refine Aaz ?_ ?_|refine Acz ?_ ?_|refine Abz ?_ ?_)<;>intro h<;>(try simp only [h])<;>(try simp only [bitvec_to_nat] at h)<;>(try simp only [h])<;>(first|(exfalso;omega)|(exfalso;simp_all;done)|(simp (disch:=omega) only [push_cast,seval,hv,hk1,hk2,hm,hQ,hN,htd,hif,hfl,hZ,hvv,e1,e2,e3,e0,e4,List.length_map])|skip))
 | ((first|refine Anz false ?_|refine Amz false ?_);simp (disch:=omega) only [push_cast,seval,hv,hk1,hk2,hm,hQ,hN,htd,hif,hfl,hZ,hvv,e1,e2,e3,e0,e4,List.length_map])
 | ((first|((first|refine call0D (BCall.ofP (Blz _ _ _ _ ?_ ?_)) ?_|refine qcall0D (BCall.ofP (Blz _ _ _ _ ?_ ?_)) ⟨_,_,rfl,rfl⟩ ?_);(iterate 2 (exact sd));rintro _ _ ⟨rfl,rfl⟩)|((first|refine call0D (BCall.ofP (upTo_ok _ _)) ?_|refine qcall0D (BCall.ofP (upTo_ok _ _)) ⟨_,_,rfl,rfl⟩ ?_);rintro _ _ ⟨rfl,rfl⟩)|((first|refine call0D (ifields_ok _ _ _ _ ?_ ?_) ?_|refine qcall0D (BCall.ofP (plain2 (ifields_ok _ _ _ _ ?_ ?_) (fL2_length _ _ _))) ⟨_,_,rfl,rfl⟩ ?_);(iterate 2 (exact sd));rintro _ _ ⟨rfl,rfl⟩)|((first|refine call0D (BCall.ofP (order_ok _ _ _ _)) ?_|refine qcall0D (BCall.ofP (order_ok _ _ _ _)) ⟨_,_,rfl,rfl⟩ ?_);rintro _ _ ⟨rfl,rfl⟩)|((first|refine call0D (BCall.ofP (cellH_ok _ _ _ ?_)) ?_|refine qcall0D (BCall.ofP (cellH_ok _ _ _ ?_)) ⟨_,_,rfl,rfl⟩ ?_);(exact sd);rintro _ _ ⟨rfl,rfl⟩)|((first|refine call0D (BCall.ofP (cellL_ok _ _ _ ?_)) ?_|refine qcall0D (BCall.ofP (cellL_ok _ _ _ ?_)) ⟨_,_,rfl,rfl⟩ ?_);(exact sd);rintro _ _ ⟨rfl,rfl⟩)|((first|refine call0D (shapeOf2_ok _ _) ?_|refine qcall0D (shapeOf2_ok _ _) ⟨_,_,rfl,rfl⟩ ?_);rintro _ _ ⟨rfl,rfl⟩)|((first|refine call0D (BCall.ofP (isz_ok _ _ _ _ ?_ ?_)) ?_|refine qcall0D (BCall.ofP (isz_ok _ _ _ _ ?_ ?_)) ⟨_,_,rfl,rfl⟩ ?_);(iterate 2 (exact sd));rintro _ _ ⟨rfl,rfl⟩)|((first|refine call0D (BCall.ofP (iVV22_ok _ _ _ _ _)) ?_|refine qcall0D (BCall.ofP (iVV22_ok _ _ _ _ _)) ⟨_,_,rfl,rfl⟩ ?_);rintro _ _ ⟨rfl,rfl⟩))<;>(try simp (disch:=omega) only [push_cast,seval,hv,hk1,hk2,hm,hQ,hN,htd,hif,hfl,hZ,hvv,e1,e2,e3,e0,e4,List.length_map]))
 | (refine Aiz ⟨.inr rfl,[16000,16016],[(16000,1),(16016,1)],_,by decide,rfl,?_⟩; (try simp (disch := omega) only [push_cast,seval,↓Ajz,↓Ahz,↓List.map_cons,↓List.map_nil,hv,hk1,hk2,hm,hQ,hN,htd,hif,hfl,hZ,hvv,e1,e2,e3,e0,e4,List.length_map]))))
            all_goals simp [MV,MVB,MVL]
          | true =>
            (repeat' (first
 | (first|refine Akz ?_|refine Aez ?_)
 | ((first|refine Alz ?_|refine Atz (mid:=l5r3a) (post:=l5r3b) mixed (by decide) ?_|refine Drz (mid:=l5r5a) (post:=l5r5b) 43 [] mixed (by decide) ?_|refine Adz ?_|refine Afz ?_|refine Agz ?_);simp (disch:=omega) only [push_cast,seval,l5r0,l5r1,l5r2,l5r3a,l5r3b,l5r3,l5r4,l5r5a,l5r5b,l5r5,l5r6,l5r7,l5r8,hv,hk1,hk2,hm,hQ,hN,htd,hif,hfl,hZ,hvv,e1,e2,e3,e0,e4,List.length_map])
 | ((first|refine Aaz ?_ ?_|refine Acz ?_ ?_|refine Abz ?_ ?_)<;>intro h<;>(try simp only [h])<;>(try simp only [bitvec_to_nat] at h)<;>(try simp only [h])<;>(first|(exfalso;omega)|(exfalso;simp_all;done)|(simp (disch:=omega) only [push_cast,seval,hv,hk1,hk2,hm,hQ,hN,htd,hif,hfl,hZ,hvv,e1,e2,e3,e0,e4,List.length_map])|skip))
 | ((first|refine Anz false ?_|refine Amz false ?_);simp (disch:=omega) only [push_cast,seval,hv,hk1,hk2,hm,hQ,hN,htd,hif,hfl,hZ,hvv,e1,e2,e3,e0,e4,List.length_map])
 | ((first|((first|refine call0D (BCall.ofP (Blz _ _ _ _ ?_ ?_)) ?_|refine qcall0D (BCall.ofP (Blz _ _ _ _ ?_ ?_)) ⟨_,_,rfl,rfl⟩ ?_);(iterate 2 (exact sd));rintro _ _ ⟨rfl,rfl⟩)|((first|refine call0D (BCall.ofP (upTo_ok _ _)) ?_|refine qcall0D (BCall.ofP (upTo_ok _ _)) ⟨_,_,rfl,rfl⟩ ?_);rintro _ _ ⟨rfl,rfl⟩)|((first|refine call0D (ifields_ok _ _ _ _ ?_ ?_) ?_|refine qcall0D (BCall.ofP (plain2 (ifields_ok _ _ _ _ ?_ ?_) (fL2_length _ _ _))) ⟨_,_,rfl,rfl⟩ ?_);(iterate 2 (exact sd));rintro _ _ ⟨rfl,rfl⟩)|((first|refine call0D (BCall.ofP (order_ok _ _ _ _)) ?_|refine qcall0D (BCall.ofP (order_ok _ _ _ _)) ⟨_,_,rfl,rfl⟩ ?_);rintro _ _ ⟨rfl,rfl⟩)|((first|refine call0D (BCall.ofP (cellH_ok _ _ _ ?_)) ?_|refine qcall0D (BCall.ofP (cellH_ok _ _ _ ?_)) ⟨_,_,rfl,rfl⟩ ?_);(exact sd);rintro _ _ ⟨rfl,rfl⟩)|((first|refine call0D (BCall.ofP (cellL_ok _ _ _ ?_)) ?_|refine qcall0D (BCall.ofP (cellL_ok _ _ _ ?_)) ⟨_,_,rfl,rfl⟩ ?_);(exact sd);rintro _ _ ⟨rfl,rfl⟩)|((first|refine call0D (shapeOf2_ok _ _) ?_|refine qcall0D (shapeOf2_ok _ _) ⟨_,_,rfl,rfl⟩ ?_);rintro _ _ ⟨rfl,rfl⟩)|((first|refine call0D (BCall.ofP (isz_ok _ _ _ _ ?_ ?_)) ?_|refine qcall0D (BCall.ofP (isz_ok _ _ _ _ ?_ ?_)) ⟨_,_,rfl,rfl⟩ ?_);(iterate 2 (exact sd));rintro _ _ ⟨rfl,rfl⟩)|((first|refine call0D (BCall.ofP (iVV22_ok _ _ _ _ _)) ?_|refine qcall0D (BCall.ofP (iVV22_ok _ _ _ _ _)) ⟨_,_,rfl,rfl⟩ ?_);rintro _ _ ⟨rfl,rfl⟩))<;>(try simp (disch:=omega) only [push_cast,seval,hv,hk1,hk2,hm,hQ,hN,htd,hif,hfl,hZ,hvv,e1,e2,e3,e0,e4,List.length_map]))
 | (refine Aiz ⟨.inr rfl,[704,832],[],_,by decide,rfl,?_⟩; (try simp (disch := omega) only [push_cast,seval,↓Ajz,↓Ahz,↓List.map_cons,↓List.map_nil,hv,hk1,hk2,hm,hQ,hN,htd,hif,hfl,hZ,hvv,e1,e2,e3,e0,e4,List.length_map]))))
            all_goals simp [MV,MVB,MVL]
      · rw [fvB_m (by omega)]
        obtain ⟨hk1,hk2⟩:=hk
        (repeat' (first
 | (first|refine Akz ?_|refine Aez ?_)
 | ((first|refine Alz ?_|refine Atz (mid:=l5r3a) (post:=l5r3b) mixed (by decide) ?_|refine Atz (mid:=l5r5a) (post:=l5r5b) mixed (by decide) ?_|refine Adz ?_|refine Afz ?_|refine Agz ?_);simp (disch:=omega) only [push_cast,seval,l5r0,l5r1,l5r2,l5r3a,l5r3b,l5r3,l5r4,l5r5a,l5r5b,l5r5,l5r6,l5r7,l5r8,hv,hk1,hk2,hm])
 | ((first|refine Aaz ?_ ?_|refine Acz ?_ ?_|refine Abz ?_ ?_)<;>intro h<;>(try simp only [h])<;>(try simp only [bitvec_to_nat] at h)<;>(try simp only [h])<;>(first|(exfalso;omega)|(exfalso;simp_all;done)|(simp (disch:=omega) only [push_cast,seval,hv,hk1,hk2,hm])|skip))
 | ((first|refine Anz false ?_|refine Amz false ?_);simp (disch:=omega) only [push_cast,seval,hv,hk1,hk2,hm])
 | ((first|((first|refine call0D (BCall.ofP (Blz _ _ _ _ ?_ ?_)) ?_|refine qcall0D (BCall.ofP (Blz _ _ _ _ ?_ ?_)) ⟨_,_,rfl,rfl⟩ ?_);(iterate 2 (exact sd));rintro _ _ ⟨rfl,rfl⟩)|((first|refine call0D (BCall.ofP (upTo_ok _ _)) ?_|refine qcall0D (BCall.ofP (upTo_ok _ _)) ⟨_,_,rfl,rfl⟩ ?_);rintro _ _ ⟨rfl,rfl⟩)|((first|refine call0D (ifields_ok _ _ _ _ ?_ ?_) ?_|refine qcall0D (ifields_ok _ _ _ _ ?_ ?_) ⟨_,_,rfl,rfl⟩ ?_);(iterate 2 (exact sd));rintro _ _ ⟨rfl,rfl⟩)|((first|refine call0D (BCall.ofP (order_ok _ _ _ _)) ?_|refine qcall0D (BCall.ofP (order_ok _ _ _ _)) ⟨_,_,rfl,rfl⟩ ?_);rintro _ _ ⟨rfl,rfl⟩)|((first|refine call0D (BCall.ofP (cellH_ok _ _ _ ?_)) ?_|refine qcall0D (BCall.ofP (cellH_ok _ _ _ ?_)) ⟨_,_,rfl,rfl⟩ ?_);(exact sd);rintro _ _ ⟨rfl,rfl⟩)|((first|refine call0D (BCall.ofP (cellL_ok _ _ _ ?_)) ?_|refine qcall0D (BCall.ofP (cellL_ok _ _ _ ?_)) ⟨_,_,rfl,rfl⟩ ?_);(exact sd);rintro _ _ ⟨rfl,rfl⟩)|((first|refine call0D (shapeOf2_ok _ _) ?_|refine qcall0D (shapeOf2_ok _ _) ⟨_,_,rfl,rfl⟩ ?_);rintro _ _ ⟨rfl,rfl⟩)|((first|refine call0D (BCall.ofP (isz_ok _ _ _ _ ?_ ?_)) ?_|refine qcall0D (BCall.ofP (isz_ok _ _ _ _ ?_ ?_)) ⟨_,_,rfl,rfl⟩ ?_);(iterate 2 (exact sd));rintro _ _ ⟨rfl,rfl⟩)|((first|refine call0D (BCall.ofP (iVV22_ok _ _ _ _ _)) ?_|refine qcall0D (BCall.ofP (iVV22_ok _ _ _ _ _)) ⟨_,_,rfl,rfl⟩ ?_);rintro _ _ ⟨rfl,rfl⟩))<;>(try simp (disch:=omega) only [push_cast,seval,hv,hk1,hk2,hm]))
 | (refine Aiz ⟨.inr rfl,[16000,16016],[(16000,1),(16016,1)],_,by decide,rfl,?_⟩;(try simp (disch:=omega) only [push_cast,seval,↓Ajz,↓Ahz,↓List.map_cons,↓List.map_nil,hv,hk1,hk2,hm]))))
        all_goals simp [MV,MVB,MVL]
    · rw [fvB_k hk]
      have hw:(decide (0 ≤ k) && decide (k ≤ (s.length:Int) - 1))=false:=by
        rw [Bool.and_eq_false_iff,decide_eq_false_iff_not,decide_eq_false_iff_not];omega
      (repeat' (first
 | (first|refine Akz ?_|refine Aez ?_)
 | ((first|refine Alz ?_|refine Atz (mid:=l5r3a) (post:=l5r3b) mixed (by decide) ?_|refine Atz (mid:=l5r5a) (post:=l5r5b) mixed (by decide) ?_|refine Adz ?_|refine Afz ?_|refine Agz ?_);simp (disch:=omega) only [push_cast,seval,l5r0,l5r1,l5r2,l5r3a,l5r3b,l5r3,l5r4,l5r5a,l5r5b,l5r5,l5r6,l5r7,l5r8,hv,hw])
 | ((first|refine Aaz ?_ ?_|refine Acz ?_ ?_|refine Abz ?_ ?_)<;>intro h<;>(try simp only [h])<;>(try simp only [bitvec_to_nat] at h)<;>(try simp only [h])<;>(first|(exfalso;omega)|(exfalso;simp_all;done)|(simp (disch:=omega) only [push_cast,seval,hv,hw])|skip))
 | ((first|refine Anz false ?_|refine Amz false ?_);simp (disch:=omega) only [push_cast,seval,hv,hw])
 | ((first|((first|refine call0D (BCall.ofP (Blz _ _ _ _ ?_ ?_)) ?_|refine qcall0D (BCall.ofP (Blz _ _ _ _ ?_ ?_)) ⟨_,_,rfl,rfl⟩ ?_);(iterate 2 (exact sd));rintro _ _ ⟨rfl,rfl⟩)|((first|refine call0D (BCall.ofP (upTo_ok _ _)) ?_|refine qcall0D (BCall.ofP (upTo_ok _ _)) ⟨_,_,rfl,rfl⟩ ?_);rintro _ _ ⟨rfl,rfl⟩)|((first|refine call0D (ifields_ok _ _ _ _ ?_ ?_) ?_|refine qcall0D (ifields_ok _ _ _ _ ?_ ?_) ⟨_,_,rfl,rfl⟩ ?_);(iterate 2 (exact sd));rintro _ _ ⟨rfl,rfl⟩)|((first|refine call0D (BCall.ofP (order_ok _ _ _ _)) ?_|refine qcall0D (BCall.ofP (order_ok _ _ _ _)) ⟨_,_,rfl,rfl⟩ ?_);rintro _ _ ⟨rfl,rfl⟩)|((first|refine call0D (BCall.ofP (cellH_ok _ _ _ ?_)) ?_|refine qcall0D (BCall.ofP (cellH_ok _ _ _ ?_)) ⟨_,_,rfl,rfl⟩ ?_);(exact sd);rintro _ _ ⟨rfl,rfl⟩)|((first|refine call0D (BCall.ofP (cellL_ok _ _ _ ?_)) ?_|refine qcall0D (BCall.ofP (cellL_ok _ _ _ ?_)) ⟨_,_,rfl,rfl⟩ ?_);(exact sd);rintro _ _ ⟨rfl,rfl⟩)|((first|refine call0D (shapeOf2_ok _ _) ?_|refine qcall0D (shapeOf2_ok _ _) ⟨_,_,rfl,rfl⟩ ?_);rintro _ _ ⟨rfl,rfl⟩)|((first|refine call0D (BCall.ofP (isz_ok _ _ _ _ ?_ ?_)) ?_|refine qcall0D (BCall.ofP (isz_ok _ _ _ _ ?_ ?_)) ⟨_,_,rfl,rfl⟩ ?_);(iterate 2 (exact sd));rintro _ _ ⟨rfl,rfl⟩)|((first|refine call0D (BCall.ofP (iVV22_ok _ _ _ _ _)) ?_|refine qcall0D (BCall.ofP (iVV22_ok _ _ _ _ _)) ⟨_,_,rfl,rfl⟩ ?_);rintro _ _ ⟨rfl,rfl⟩))<;>(try simp (disch:=omega) only [push_cast,seval,hv,hw]))
 | (refine Aiz ⟨.inr rfl,[16000,16016],[(16000,1),(16016,1)],_,by decide,rfl,?_⟩;(try simp (disch:=omega) only [push_cast,seval,↓Ajz,↓Ahz,↓List.map_cons,↓List.map_nil,hv,hw]))))
      all_goals simp [MV,MVB,MVL]

end Go.Proofs.YtgiaepecaokcfaaDoor
