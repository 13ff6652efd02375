/- Texts of this verifier. -/
import Derived.Test.YtkpcjppnjmhanaaGreatDoorCB4
import Derived.Test.YtkpcjppnjmhanaaGreatDoorCM1
import Derived.Test.YtkpcjppnjmhanaaGreatDoorCW3
import Derived.WalkKit
import Derived.LaidEql
import Derived.Stop.Asserts
import Derived.RowKitTokens
set_option maxHeartbeats 4000000
set_option linter.unusedSimpArgs false
set_option linter.unusedSectionVars false
set_option linter.unusedVariables false
set_option maxRecDepth 4000
namespace Go.Proofs.YtkpcjppnjmhanaaGreatDoor
open VwM Vw Go
variable [SentA]

/-- A list and whether there is one: nothing without. -/
abbrev TB (v:Bool) (l:List Int):AV → List (List AV) → Prop:=fun r H'=>r=.tup [.own 0 (MVL v l).length 1,.bool v] ∧ H'=[IL (MVL v l)]
theorem MVL_true (l:List Int):MVL true l=l:=rfl
theorem MVL_false (l:List Int):MVL false l=[]:=rfl
theorem two_facts {mem:List Int} {b b':Int} {sh st sh' st':List Int} (h:twoB mem b sh st b' sh' st'=true):seeB mem b sh st=true ∧ seeB mem b' sh' st'=true ∧ sh=sh':=by
  simp only [twoB,Bool.and_eq_true,decide_eq_true_eq] at h
  exact ⟨h.1.1,h.1.2,h.2⟩
theorem iLoad_ok (mem:List Int) (b:Int) (sh st:List Int) (q n m:Nat) (hq:mem.length=q) (hn:sh.length=n) (hm:st.length=m) (hb:q ≤ 1099511627776 ∧ n ≤ 1099511627776 ∧ m ≤ 1099511627776):BCall Tryz.prog 20 [.rows false (IL mem) q,.agg [.int .i64 b,.rows false (IL sh) n,.rows false (IL st) m]] [] (OI (MVL (seeB mem b sh st) (takesL mem (offs b sh st)))):=by
  subst hq hn hm
  refine Auz (pins:=[]) (pin:=0) l20_eq rfl rfl rfl ?_
  cases h1:seeB mem b sh st with
  | false =>
    (repeat' (first
 | (first|refine Agz ?_|refine Abz ?_)
 | ((first|refine Ahz ?_|refine Adz ?_);simp (disch:=omega) only [push_cast,seval,l20r0,l20r1,l20r2,l20r3,h1])
 | ((first|refine Alz false ?_);simp (disch:=omega) only [push_cast,seval,h1])
 | ((first|((first|refine Akz (Ajz (Dez _ _ _ _ _ _ _ ?_ ?_ ?_ ?_)) ?_|refine Aiz (Ajz (Dez _ _ _ _ _ _ _ ?_ ?_ ?_ ?_)) ⟨_,_,rfl,rfl⟩ ?_);(iterate 4 (exact sd));rintro _ _ ⟨rfl,rfl⟩))<;>(try simp (disch:=omega) only [push_cast,seval,h1]))
 | (refine Aez ⟨.inr rfl,[16000],[(16000,1)],_,by decide,rfl,?_⟩;(try simp (disch:=omega) only [push_cast,seval,↓Afz,↓Acz,↓List.map_cons,↓List.map_nil,h1]))))
    all_goals simp [OI,MVL]
  | true =>
    (repeat' (first
 | (first|refine Agz ?_|refine Abz ?_)
 | ((first|refine Ahz ?_|refine Adz ?_|refine Aoz ?_);simp (disch:=omega) only [push_cast,seval,l20r0,l20r1,l20r2,l20r3,h1])
 | ((first|refine Alz false ?_);simp (disch:=omega) only [push_cast,seval,h1])
 | ((first|((first|refine Akz (Ajz (Dez _ _ _ _ _ _ _ ?_ ?_ ?_ ?_)) ?_|refine Aiz (Ajz (Dez _ _ _ _ _ _ _ ?_ ?_ ?_ ?_)) ⟨_,_,rfl,rfl⟩ ?_);(iterate 4 (exact sd));rintro _ _ ⟨rfl,rfl⟩)|((first|refine Akz (Hez _ _ _ _ _ _ _ ?_ ?_ ?_ ?_) ?_|refine Aiz (Hez _ _ _ _ _ _ _ ?_ ?_ ?_ ?_) ⟨_,_,rfl,rfl⟩ ?_);(iterate 4 (exact sd));rintro _ _ ⟨rfl,rfl⟩))<;>(try simp (disch:=omega) only [push_cast,seval,h1]))
 | (refine Aez ⟨.inr rfl,[112],[],_,by decide,rfl,?_⟩;(try simp (disch:=omega) only [push_cast,seval,↓Afz,↓Acz,↓List.map_cons,↓List.map_nil,h1]);(first|done|(show AV.own _ _ _=_ ∧ _)))
 | (refine Aez ⟨.inr rfl,[176],[],_,by decide,rfl,?_⟩;(try simp (disch:=omega) only [push_cast,seval,↓Afz,↓Acz,↓List.map_cons,↓List.map_nil,h1]);(first|done|(show AV.own _ _ _=_ ∧ _)))))
    all_goals simp [OI,MVL]


set_option maxHeartbeats 8000000 in
theorem Inz (mem:List Int) (b:Int) (sh st:List Int) (b':Int) (sh' st':List Int) (q n m n' m':Nat) (hq:mem.length=q) (hn:sh.length=n) (hm:st.length=m) (hn':sh'.length=n') (hm':st'.length=m') (hb:(q ≤ 1099511627776 ∧ n ≤ 1099511627776 ∧ m ≤ 1099511627776) ∧ n' ≤ 1099511627776 ∧ m' ≤ 1099511627776):BCall Tryz.prog 67 [.rows false (IL mem) q,.agg [.int .i64 b,.rows false (IL sh) n,.rows false (IL st) m],.agg [.int .i64 b',.rows false (IL sh') n',.rows false (IL st') m']] [] (TB (twoB mem b sh st b' sh' st') (putL mem (offs b sh st) (takesL mem (offs b' sh' st')))):=by
  subst hq hn hm hn' hm'
  obtain ⟨⟨hb0,hb1,hb2⟩,hb3,hb4⟩:=hb
  have q0:(mem.length ≤ 1099511627776 ∧ sh.length ≤ 1099511627776 ∧ st.length ≤ 1099511627776) ∧ sh'.length ≤ 1099511627776 ∧ st'.length ≤ 1099511627776:=⟨⟨hb0,hb1,hb2⟩,hb3,hb4⟩
  refine Auz (pins:=[]) (pin:=0) l67_eq rfl rfl rfl ?_
  cases h:twoB mem b sh st b' sh' st' with
  | false =>
    (repeat' (first
 | (first|refine Agz ?_|refine Abz ?_)
 | ((first|refine Ahz ?_|refine Adz ?_);simp (disch:=omega) only [push_cast,seval,l67r0,l67r1,l67r2,l67r3a,l67r3b,l67r3,h])
 | ((first|refine Alz false ?_);simp (disch:=omega) only [push_cast,seval,h])
 | ((first|((first|refine Akz (Ajz (Lqz _ _ _ _ _ _ _ _ _ _ _ _ ?_ ?_ ?_ ?_ ?_ ?_)) ?_|refine Aiz (Ajz (Lqz _ _ _ _ _ _ _ _ _ _ _ _ ?_ ?_ ?_ ?_ ?_ ?_)) ⟨_,_,rfl,rfl⟩ ?_);(iterate 6 (exact sd));rintro _ _ ⟨rfl,rfl⟩))<;>(try simp (disch:=omega) only [push_cast,seval,h]))
 | (refine Aez ⟨.inr rfl,[16000],[(16000,1)],_,by decide,rfl,?_⟩;(try simp (disch:=omega) only [push_cast,seval,↓Afz,↓Acz,↓List.map_cons,↓List.map_nil,h]))))
    all_goals simp [TB,MVL]
  | true =>
    obtain ⟨h1,h2,h3⟩:=two_facts h
    subst h3
    obtain ⟨f1,f2,f3,f4,f5,f6⟩:=Cfz h1
    obtain ⟨g1,g2,_,_,_,_⟩:=Cfz h2
    have o1:=A6z b sh st
    have o2:=A6z b' sh st'
    have c1:=(Ckz.1 h1).2.2
    have c2:=(Ckz.1 h2).2.2
    have q1:okV b sh st ∧ st.length=sh.length:=⟨f1,f2⟩
    have q2:okV b' sh st' ∧ st'.length=sh.length:=⟨g1,g2⟩
    have hp:(pr sh).toNat ≤ 60:=by omega
    have hpc:(((pr sh).toNat:Nat):Int)=pr sh:=by omega
    have hsp:∃ c:Nat,pr sh=(c:Int) ∧ c ≤ 60:=⟨(pr sh).toNat,by omega,by omega⟩
    obtain ⟨c,hc,hc60⟩:=hsp
    have hlL:(offs b sh st).length=c:=by omega
    have hlL':(offs b' sh st').length=c:=by omega
    generalize hL:offs b sh st=L at *
    generalize hL':offs b' sh st'=L' at *
    have tl:=takesL_length mem L'
    have k1:seeB mem b sh st=true ∧ (L'.length:Int)=pr sh:=⟨h1,by omega⟩
    have k2:(c=c ∧ c=c ∧ mem.length ≤ 60 ∧ c ≤ 60) ∧ (∀ x ∈ L,0 ≤ x ∧ x ≤ (mem.length:Int) - 1) ∧ ∀ x ∈ L',0 ≤ x ∧ x ≤ (mem.length:Int) - 1:=⟨⟨rfl,rfl,f6,hc60⟩,c1,c2⟩
    have k3:(c=c ∧ mem.length ≤ 60 ∧ c ≤ 60) ∧ (∀ x ∈ L,0 ≤ x ∧ x ≤ (mem.length:Int) - 1) ∧ ∀ x ∈ L',0 ≤ x ∧ x ≤ (mem.length:Int) - 1:=⟨⟨rfl,f6,hc60⟩,c1,c2⟩
    have k4:(c=c ∧ mem.length ≤ 60 ∧ c ≤ 60) ∧ (∀ x ∈ L.reverse,0 ≤ x ∧ x ≤ (mem.length:Int) - 1) ∧ ∀ x ∈ L'.reverse,0 ≤ x ∧ x ≤ (mem.length:Int) - 1:=⟨⟨rfl,f6,hc60⟩,fun x hx=>c1 x (List.mem_reverse.1 hx),fun x hx=>c2 x (List.mem_reverse.1 hx)⟩
    have k5:c ≤ 1000:=by omega
    have lrL:L.reverse.length=c:=by rw [List.length_reverse];exact hlL
    have lrL':L'.reverse.length=c:=by rw [List.length_reverse];exact hlL'
    (repeat' (first
 | (first|refine Agz ?_|refine Abz ?_)
 | ((first|refine Ahz ?_|refine Axz (mid:=l67r3a) (post:=l67r3b) mixed (by decide) ?_|refine Adz ?_|refine Aoz ?_);simp (disch:=omega) only [push_cast,seval,l67r0,l67r1,l67r2,l67r3a,l67r3b,l67r3,h,hL,hL',hc,hlL,hlL',tl,lrL,lrL',List.length_reverse,Btz,Int.toNat_natCast])
 | ((first|refine Alz false ?_|refine A2z false ?_);simp (disch:=omega) only [push_cast,seval,h,hL,hL',hc,hlL,hlL',tl,lrL,lrL',List.length_reverse,Btz,Int.toNat_natCast])
 | ((first|((first|refine Akz (Ajz (Lqz _ _ _ _ _ _ _ _ _ _ _ _ ?_ ?_ ?_ ?_ ?_ ?_)) ?_|refine Aiz (Ajz (Lqz _ _ _ _ _ _ _ _ _ _ _ _ ?_ ?_ ?_ ?_ ?_ ?_)) ⟨_,_,rfl,rfl⟩ ?_);(iterate 6 (exact sd));rintro _ _ ⟨rfl,rfl⟩)|((first|refine Akz (Ilz _ _ _ _ _ _ _ ?_ ?_ ?_ ?_) ?_|refine Aiz (Ilz _ _ _ _ _ _ _ ?_ ?_ ?_ ?_) ⟨_,_,rfl,rfl⟩ ?_);(iterate 4 (exact sd));rintro _ _ ⟨rfl,rfl⟩)|((first|refine Akz (sput_ok _ _ _ _ _ _ _ _ _ ?_ ?_ ?_ ?_ ?_) ?_|refine Aiz (sput_ok _ _ _ _ _ _ _ _ _ ?_ ?_ ?_ ?_ ?_) ⟨_,_,rfl,rfl⟩ ?_);(iterate 5 (exact sd));rintro _ _ ⟨rfl,rfl⟩))<;>(try simp (disch:=omega) only [push_cast,seval,h,hL,hL',hc,hlL,hlL',tl,lrL,lrL',List.length_reverse,Btz,Int.toNat_natCast]))
 | (refine Aez ⟨.inr rfl,[288],[],_,by decide,rfl,?_⟩;(try simp (disch:=omega) only [push_cast,seval,↓Afz,↓Acz,↓List.map_cons,↓List.map_nil,h,hL,hL',hc,hlL,hlL',tl,lrL,lrL',List.length_reverse,Btz,Int.toNat_natCast]))))
    all_goals simp [TB,MVL]


set_option maxHeartbeats 8000000 in
theorem Lzz (mem:List Int) (b:Int) (sh st:List Int) (b':Int) (sh' st':List Int) (q n m n' m':Nat) (hq:mem.length=q) (hn:sh.length=n) (hm:st.length=m) (hn':sh'.length=n') (hm':st'.length=m') (hb:(q ≤ 1099511627776 ∧ n ≤ 1099511627776 ∧ m ≤ 1099511627776) ∧ n' ≤ 1099511627776 ∧ m' ≤ 1099511627776):BCall Tryz.prog 66 [.rows false (IL mem) q,.agg [.int .i64 b,.rows false (IL sh) n,.rows false (IL st) m],.agg [.int .i64 b',.rows false (IL sh') n',.rows false (IL st') m']] [] (TB (twoB mem b sh st b' sh' st') (putL mem (offs b sh st) (takesL mem (offs b' sh' st')))):=by
  subst hq hn hm hn' hm'
  obtain ⟨⟨hb0,hb1,hb2⟩,hb3,hb4⟩:=hb
  have q0:(mem.length ≤ 1099511627776 ∧ sh.length ≤ 1099511627776 ∧ st.length ≤ 1099511627776) ∧ sh'.length ≤ 1099511627776 ∧ st'.length ≤ 1099511627776:=⟨⟨hb0,hb1,hb2⟩,hb3,hb4⟩
  refine Auz (pins:=[]) (pin:=0) l66_eq rfl rfl rfl ?_
  cases h:twoB mem b sh st b' sh' st' with
  | false =>
    (repeat' (first
 | (first|refine Agz ?_|refine Abz ?_)
 | ((first|refine Ahz ?_|refine Adz ?_);simp (disch:=omega) only [push_cast,seval,l66r0,l66r1,l66r2,l66r3a,l66r3b,l66r3,h])
 | ((first|refine Alz false ?_);simp (disch:=omega) only [push_cast,seval,h])
 | ((first|((first|refine Akz (Ajz (D5z _ _ _ _ _ _ _ _ _ _ _ _ ?_ ?_ ?_ ?_ ?_ ?_)) ?_|refine Aiz (Ajz (D5z _ _ _ _ _ _ _ _ _ _ _ _ ?_ ?_ ?_ ?_ ?_ ?_)) ⟨_,_,rfl,rfl⟩ ?_);(iterate 6 (exact sd));rintro _ _ ⟨rfl,rfl⟩))<;>(try simp (disch:=omega) only [push_cast,seval,h]))
 | (refine Aez ⟨.inr rfl,[16000],[(16000,1)],_,by decide,rfl,?_⟩;(try simp (disch:=omega) only [push_cast,seval,↓Afz,↓Acz,↓List.map_cons,↓List.map_nil,h]))))
    all_goals simp [TB,MVL]
  | true =>
    obtain ⟨h1,h2,h3⟩:=two_facts h
    subst h3
    obtain ⟨f1,f2,f3,f4,f5,f6⟩:=Cfz h1
    obtain ⟨g1,g2,_,_,_,_⟩:=Cfz h2
    have o1:=A6z b sh st
    have o2:=A6z b' sh st'
    have c1:=(Ckz.1 h1).2.2
    have c2:=(Ckz.1 h2).2.2
    have q1:okV b sh st ∧ st.length=sh.length:=⟨f1,f2⟩
    have q2:okV b' sh st' ∧ st'.length=sh.length:=⟨g1,g2⟩
    have hp:(pr sh).toNat ≤ 60:=by omega
    have hpc:(((pr sh).toNat:Nat):Int)=pr sh:=by omega
    have hsp:∃ c:Nat,pr sh=(c:Int) ∧ c ≤ 60:=⟨(pr sh).toNat,by omega,by omega⟩
    obtain ⟨c,hc,hc60⟩:=hsp
    have hlL:(offs b sh st).length=c:=by omega
    have hlL':(offs b' sh st').length=c:=by omega
    generalize hL:offs b sh st=L at *
    generalize hL':offs b' sh st'=L' at *
    have tl:=takesL_length mem L'
    have k1:seeB mem b sh st=true ∧ (L'.length:Int)=pr sh:=⟨h1,by omega⟩
    have k2:(c=c ∧ c=c ∧ mem.length ≤ 60 ∧ c ≤ 60) ∧ (∀ x ∈ L,0 ≤ x ∧ x ≤ (mem.length:Int) - 1) ∧ ∀ x ∈ L',0 ≤ x ∧ x ≤ (mem.length:Int) - 1:=⟨⟨rfl,rfl,f6,hc60⟩,c1,c2⟩
    have k3:(c=c ∧ mem.length ≤ 60 ∧ c ≤ 60) ∧ (∀ x ∈ L,0 ≤ x ∧ x ≤ (mem.length:Int) - 1) ∧ ∀ x ∈ L',0 ≤ x ∧ x ≤ (mem.length:Int) - 1:=⟨⟨rfl,f6,hc60⟩,c1,c2⟩
    have k4:(c=c ∧ mem.length ≤ 60 ∧ c ≤ 60) ∧ (∀ x ∈ L.reverse,0 ≤ x ∧ x ≤ (mem.length:Int) - 1) ∧ ∀ x ∈ L'.reverse,0 ≤ x ∧ x ≤ (mem.length:Int) - 1:=⟨⟨rfl,f6,hc60⟩,fun x hx=>c1 x (List.mem_reverse.1 hx),fun x hx=>c2 x (List.mem_reverse.1 hx)⟩
    have k5:c ≤ 1000:=by omega
    have lrL:L.reverse.length=c:=by rw [List.length_reverse];exact hlL
    have lrL':L'.reverse.length=c:=by rw [List.length_reverse];exact hlL'
    (repeat' (first
 | (first|refine Agz ?_|refine Abz ?_)
 | ((first|refine Ahz ?_|refine Axz (mid:=l66r3a) (post:=l66r3b) mixed (by decide) ?_|refine Adz ?_|refine Aoz ?_);simp (disch:=omega) only [push_cast,seval,l66r0,l66r1,l66r2,l66r3a,l66r3b,l66r3,h,hL,hL',hc,hlL,hlL',tl,lrL,lrL',List.length_reverse,Btz,Int.toNat_natCast])
 | ((first|refine Alz false ?_|refine A2z false ?_);simp (disch:=omega) only [push_cast,seval,h,hL,hL',hc,hlL,hlL',tl,lrL,lrL',List.length_reverse,Btz,Int.toNat_natCast])
 | ((first|((first|refine Akz (Ajz (D5z _ _ _ _ _ _ _ _ _ _ _ _ ?_ ?_ ?_ ?_ ?_ ?_)) ?_|refine Aiz (Ajz (D5z _ _ _ _ _ _ _ _ _ _ _ _ ?_ ?_ ?_ ?_ ?_ ?_)) ⟨_,_,rfl,rfl⟩ ?_);(iterate 6 (exact sd));rintro _ _ ⟨rfl,rfl⟩)|((first|refine Akz (Hez _ _ _ _ _ _ _ ?_ ?_ ?_ ?_) ?_|refine Aiz (Hez _ _ _ _ _ _ _ ?_ ?_ ?_ ?_) ⟨_,_,rfl,rfl⟩ ?_);(iterate 4 (exact sd));rintro _ _ ⟨rfl,rfl⟩)|((first|refine Akz (stored_ok _ _ _ _ _ _ _ _ _ ?_ ?_ ?_ ?_ ?_) ?_|refine Aiz (stored_ok _ _ _ _ _ _ _ _ _ ?_ ?_ ?_ ?_ ?_) ⟨_,_,rfl,rfl⟩ ?_);(iterate 5 (exact sd));rintro _ _ ⟨rfl,rfl⟩))<;>(try simp (disch:=omega) only [push_cast,seval,h,hL,hL',hc,hlL,hlL',tl,lrL,lrL',List.length_reverse,Btz,Int.toNat_natCast]))
 | (refine Aez ⟨.inr rfl,[288],[],_,by decide,rfl,?_⟩;(try simp (disch:=omega) only [push_cast,seval,↓Afz,↓Acz,↓List.map_cons,↓List.map_nil,h,hL,hL',hc,hlL,hlL',tl,lrL,lrL',List.length_reverse,Btz,Int.toNat_natCast]))))
    all_goals simp [TB,MVL]


/-- The cells with different values,of memories with as many cells. -/
def chB (a b:List Int):Bool:=vMem a && vMem b && decide (a.length=b.length)


set_option maxHeartbeats 8000000 in
theorem iCh_ok (xs ys:List Int) (n m:Nat) (hn:xs.length=n) (hm:ys.length=m) (hb:n ≤ 1099511627776 ∧ m ≤ 1099511627776):BCall Tryz.prog 31 [.rows false (IL xs) n,.rows false (IL ys) m] [] (OI (MVL (chB xs ys) (chL xs ys))):=by
  subst hn hm
  obtain ⟨hb0,hb3⟩:=hb
  refine Auz (pins:=[]) (pin:=0) l31_eq rfl rfl rfl ?_
  unfold chB
  cases h1:vMem xs with
  | false =>
    (repeat' (first
 | (first|refine Agz ?_|refine Abz ?_)
 | ((first|refine Ahz ?_|refine Adz ?_);simp (disch:=omega) only [push_cast,seval,l31r0,l31r1,l31r2,l31r3,l31r4,l31r5,l31r6,l31r7,l31r8,l31r9,l31r10,h1])
 | ((first|refine Alz false ?_);simp (disch:=omega) only [push_cast,seval,h1])
 | ((first|((first|refine Akz (Ajz (Bvz _ _ ?_ ?_)) ?_|refine Aiz (Ajz (Bvz _ _ ?_ ?_)) ⟨_,_,rfl,rfl⟩ ?_);(iterate 2 (exact sd));rintro _ _ ⟨rfl,rfl⟩))<;>(try simp (disch:=omega) only [push_cast,seval,h1]))
 | (refine Aez ⟨.inr rfl,[16000],[(16000,1)],_,by decide,rfl,?_⟩;(try simp (disch:=omega) only [push_cast,seval,↓Afz,↓Acz,↓List.map_cons,↓List.map_nil,h1]))))
    all_goals simp [OI,MVL]
  | true =>
  cases h2:vMem ys with
  | false =>
    (repeat' (first
 | (first|refine Agz ?_|refine Abz ?_)
 | ((first|refine Ahz ?_|refine Adz ?_);simp (disch:=omega) only [push_cast,seval,l31r0,l31r1,l31r2,l31r3,l31r4,l31r5,l31r6,l31r7,l31r8,l31r9,l31r10,h1,h2])
 | ((first|refine Alz false ?_);simp (disch:=omega) only [push_cast,seval,h1,h2])
 | ((first|((first|refine Akz (Ajz (Bvz _ _ ?_ ?_)) ?_|refine Aiz (Ajz (Bvz _ _ ?_ ?_)) ⟨_,_,rfl,rfl⟩ ?_);(iterate 2 (exact sd));rintro _ _ ⟨rfl,rfl⟩))<;>(try simp (disch:=omega) only [push_cast,seval,h1,h2]))
 | (refine Aez ⟨.inr rfl,[16000],[(16000,1)],_,by decide,rfl,?_⟩;(try simp (disch:=omega) only [push_cast,seval,↓Afz,↓Acz,↓List.map_cons,↓List.map_nil,h1,h2]))))
    all_goals simp [OI,MVL]
  | true =>
  by_cases h3:xs.length=ys.length
  · have h3':(xs.length:Int)=(ys.length:Int):=by omega
    have h3b:decide (xs.length=ys.length)=true:=decide_eq_true h3
    have h60:=(B3z.1 h1).1
    rw [h3b]
    (repeat' (first
 | (first|refine Agz ?_|refine Abz ?_)
 | ((first|refine Ahz ?_|refine Adz ?_|refine Aoz ?_);simp (disch:=omega) only [push_cast,seval,l31r0,l31r1,l31r2,l31r3,l31r4,l31r5,l31r6,l31r7,l31r8,l31r9,l31r10,h1,h2,h3'])
 | ((first|refine Alz false ?_);simp (disch:=omega) only [push_cast,seval,h1,h2,h3'])
 | ((first|((first|refine Akz (Ajz (Bvz _ _ ?_ ?_)) ?_|refine Aiz (Ajz (Bvz _ _ ?_ ?_)) ⟨_,_,rfl,rfl⟩ ?_);(iterate 2 (exact sd));rintro _ _ ⟨rfl,rfl⟩))<;>(try simp (disch:=omega) only [push_cast,seval,h1,h2,h3']))
 | (refine Aez ⟨.inr rfl,[624],[],_,by decide,rfl,?_⟩;(try simp (disch:=omega) only [push_cast,seval,↓Afz,↓Acz,↓List.map_cons,↓List.map_nil,h1,h2,h3']))))
    refine A7z (fun k:Nat=>if chK xs ys k=[] then mkS [(1,RI ys),(5,.val (.slice none 0 0)),(23,RI xs),(24,.int .i64 xs.length),(25,.int .i64 k)] [] else mkS [(1,RI ys),(5,.own 624 (chK xs ys k).length 1),(23,RI xs),(24,.int .i64 xs.length),(25,.int .i64 k)] [(624,IL (chK xs ys k))])
      (fun k=>k ≤ xs.length) (fun k=>xs.length - k) 0 (Nat.zero_le _) ?_ ?_
    · have e0:chK xs ys 0=[]:=rfl
      rw [if_pos e0]
      (refine Sub.of_lists ?_ ?_ ?_ ?_ ?_<;>simp [Vw.mkS,Vw.lk,Vw.hk,AV.inn,innL,Apz,Anz,Aqz,-List.map_set,-List.getD_eq_getElem?_getD,e0,h3'])
    · intro k hk
      have e1:=H4z xs ys k
      by_cases hlt:k < xs.length
      · have hlt2:k < ys.length:=by omega
        by_cases he:xs.getD k 0=ys.getD k 0
        · have e2:chK xs ys (k + 1)=chK xs ys k:=by simp only [chK];rw [if_pos he]
          by_cases hp:chK xs ys k=[]
          · rw [if_pos hp]
            have hp2:chK xs ys (k + 1)=[]:=e2.trans hp
            (repeat' (first
 | (first|refine Agz ?_|refine Abz ?_)
 | ((first|refine Ahz ?_|refine Adz ?_|refine Aoz ?_);simp (disch:=omega) only [push_cast,seval,l31r0,l31r1,l31r2,l31r3,l31r4,l31r5,l31r6,l31r7,l31r8,l31r9,l31r10,he])
 | ((first|refine Amz (fun h=>?_) (fun h=>?_))<;>(try simp only [h])<;>(try simp only [bitvec_to_nat] at h)<;>(try simp only [h])<;>(first|(exfalso;omega)|(exfalso;simp_all;done)|(simp (disch:=omega) only [push_cast,seval,he])|skip))
 | (refine Aez ⟨.inr rfl,[624],[],_,by decide,rfl,?_⟩; (try simp (disch := omega) only [push_cast,seval,↓Afz,↓Acz,↓List.map_cons,↓List.map_nil,he]))))
            refine ⟨k + 1,by omega,by omega,?_⟩
            rw [if_pos hp2]
            (refine Sub.of_lists ?_ ?_ ?_ ?_ ?_<;>simp [Vw.mkS,Vw.lk,Vw.hk,AV.inn,innL,Apz,Anz,Aqz,-List.map_set,-List.getD_eq_getElem?_getD])
          · rw [if_neg hp]
            have hp2:¬ chK xs ys (k + 1)=[]:=by rw [e2];exact hp
            rw [e2] at hp2
            (repeat' (first
 | (first|refine Agz ?_|refine Abz ?_)
 | ((first|refine Ahz ?_|refine Adz ?_|refine Aoz ?_);simp (disch:=omega) only [push_cast,seval,l31r0,l31r1,l31r2,l31r3,l31r4,l31r5,l31r6,l31r7,l31r8,l31r9,l31r10,he])
 | ((first|refine Amz (fun h=>?_) (fun h=>?_))<;>(try simp only [h])<;>(try simp only [bitvec_to_nat] at h)<;>(try simp only [h])<;>(first|(exfalso;omega)|(exfalso;simp_all;done)|(simp (disch:=omega) only [push_cast,seval,he])|skip))
 | (refine Aez ⟨.inr rfl,[624],[],_,by decide,rfl,?_⟩; (try simp (disch := omega) only [push_cast,seval,↓Afz,↓Acz,↓List.map_cons,↓List.map_nil,he]))))
            refine ⟨k + 1,by omega,by omega,?_⟩
            rw [e2,if_neg hp]
            (refine Sub.of_lists ?_ ?_ ?_ ?_ ?_<;>simp [Vw.mkS,Vw.lk,Vw.hk,AV.inn,innL,Apz,Anz,Aqz,-List.map_set,-List.getD_eq_getElem?_getD])
        · have e2:chK xs ys (k + 1)=chK xs ys k ++ [(k:Int)]:=by simp only [chK];rw [if_neg he]
          have hp2:¬ chK xs ys k ++ [(k:Int)]=[]:=by simp
          by_cases hp:chK xs ys k=[]
          · rw [if_pos hp]
            rw [hp,List.nil_append] at e2
            have hp3:¬ [(k:Int)]=[]:=by simp
            (repeat' (first
 | (first|refine Agz ?_|refine Abz ?_)
 | ((first|refine Ahz ?_|refine Adz ?_|refine Aoz ?_);simp (disch:=omega) only [push_cast,seval,l31r0,l31r1,l31r2,l31r3,l31r4,l31r5,l31r6,l31r7,l31r8,l31r9,l31r10,he])
 | ((first|refine Amz (fun h=>?_) (fun h=>?_))<;>(try simp only [h])<;>(try simp only [bitvec_to_nat] at h)<;>(try simp only [h])<;>(first|(exfalso;omega)|(exfalso;simp_all;done)|(simp (disch:=omega) only [push_cast,seval,he])|skip))
 | (refine Aez ⟨.inr rfl,[624],[],_,by decide,rfl,?_⟩; (try simp (disch := omega) only [push_cast,seval,↓Afz,↓Acz,↓List.map_cons,↓List.map_nil,he]))))
            refine ⟨k + 1,by omega,by omega,?_⟩
            rw [e2,if_neg hp3]
            (refine Sub.of_lists ?_ ?_ ?_ ?_ ?_<;>simp [Vw.mkS,Vw.lk,Vw.hk,AV.inn,innL,Apz,Anz,Aqz,-List.map_set,-List.getD_eq_getElem?_getD])
          · rw [if_neg hp]
            generalize chK xs ys k=p at *
            (repeat' (first
 | (first|refine Agz ?_|refine Abz ?_)
 | ((first|refine Ahz ?_|refine Adz ?_|refine Aoz ?_);simp (disch:=omega) only [push_cast,seval,l31r0,l31r1,l31r2,l31r3,l31r4,l31r5,l31r6,l31r7,l31r8,l31r9,l31r10,he])
 | ((first|refine Amz (fun h=>?_) (fun h=>?_))<;>(try simp only [h])<;>(try simp only [bitvec_to_nat] at h)<;>(try simp only [h])<;>(first|(exfalso;omega)|(exfalso;simp_all;done)|(simp (disch:=omega) only [push_cast,seval,he])|skip))
 | (refine Aez ⟨.inr rfl,[624],[],_,by decide,rfl,?_⟩; (try simp (disch := omega) only [push_cast,seval,↓Afz,↓Acz,↓List.map_cons,↓List.map_nil,he]))))
            refine ⟨k + 1,by omega,by omega,?_⟩
            rw [e2,if_neg hp2]
            (refine Sub.of_lists ?_ ?_ ?_ ?_ ?_<;>simp [Vw.mkS,Vw.lk,Vw.hk,AV.inn,innL,Apz,Anz,Aqz,-List.map_set,-List.getD_eq_getElem?_getD])
      · have hke:k=xs.length:=by omega
        have e3:chK xs ys k=chL xs ys:=by rw [hke];rfl
        rw [e3]
        by_cases hp:chL xs ys=[]
        · rw [if_pos hp,hp]
          (repeat' (first
 | (first|refine Agz ?_|refine Abz ?_)
 | ((first|refine Ahz ?_|refine Adz ?_|refine A1z ?_);simp (disch:=omega) only [push_cast,seval,l31r0,l31r1,l31r2,l31r3,l31r4,l31r5,l31r6,l31r7,l31r8,l31r9,l31r10])
 | ((first|refine Amz (fun h=>?_) (fun h=>?_))<;>(try simp only [h])<;>(try simp only [bitvec_to_nat] at h)<;>(try simp only [h])<;>(first|(exfalso;omega)|(exfalso;simp_all;done)|(simp (disch:=omega) only [push_cast,seval])|skip))
 | (refine Aez ⟨.inr rfl,[16000],[(16000,1)],_,by decide,rfl,?_⟩; (try simp (disch := omega) only [push_cast,seval,↓Afz,↓Acz,↓List.map_cons,↓List.map_nil]))))
          all_goals simp [OI,MVL]
        · rw [if_neg hp]
          (repeat' (first
 | (first|refine Agz ?_|refine Abz ?_)
 | ((first|refine Ahz ?_|refine Adz ?_|refine A1z ?_);simp (disch:=omega) only [push_cast,seval,l31r0,l31r1,l31r2,l31r3,l31r4,l31r5,l31r6,l31r7,l31r8,l31r9,l31r10])
 | ((first|refine Amz (fun h=>?_) (fun h=>?_))<;>(try simp only [h])<;>(try simp only [bitvec_to_nat] at h)<;>(try simp only [h])<;>(first|(exfalso;omega)|(exfalso;simp_all;done)|(simp (disch:=omega) only [push_cast,seval])|skip))
 | (refine Aez ⟨.inr rfl,[624],[],_,by decide,rfl,?_⟩; (try simp (disch := omega) only [push_cast,seval,↓Afz,↓Acz,↓List.map_cons,↓List.map_nil]))))
          all_goals simp [OI,MVL]
  · have h3':¬ (xs.length:Int)=(ys.length:Int):=by omega
    have h3b:decide (xs.length=ys.length)=false:=decide_eq_false h3
    rw [h3b]
    (repeat' (first
 | (first|refine Agz ?_|refine Abz ?_)
 | ((first|refine Ahz ?_|refine Adz ?_);simp (disch:=omega) only [push_cast,seval,l31r0,l31r1,l31r2,l31r3,l31r4,l31r5,l31r6,l31r7,l31r8,l31r9,l31r10,h1,h2,h3'])
 | ((first|refine Alz false ?_);simp (disch:=omega) only [push_cast,seval,h1,h2,h3'])
 | ((first|((first|refine Akz (Ajz (Bvz _ _ ?_ ?_)) ?_|refine Aiz (Ajz (Bvz _ _ ?_ ?_)) ⟨_,_,rfl,rfl⟩ ?_);(iterate 2 (exact sd));rintro _ _ ⟨rfl,rfl⟩))<;>(try simp (disch:=omega) only [push_cast,seval,h1,h2,h3']))
 | (refine Aez ⟨.inr rfl,[16000],[(16000,1)],_,by decide,rfl,?_⟩;(try simp (disch:=omega) only [push_cast,seval,↓Afz,↓Acz,↓List.map_cons,↓List.map_nil,h1,h2,h3']))))
    all_goals simp [OI,MVL]


theorem Glz {mem L:List Int} (h:∀ x ∈ mem,0 ≤ x ∧ x ≤ 255):∀ x ∈ takesL mem L,0 ≤ x ∧ x ≤ 255:=by
  intro x hx
  unfold takesL at hx
  obtain ⟨i,_,rfl⟩:=List.mem_map.1 hx
  by_cases hl:i.toNat < mem.length
  · exact h _ (Cbz hl)
  · rw [List.getD,List.getElem?_eq_none (Nat.le_of_not_lt hl)]
    exact ⟨Int.le_refl 0,by decide⟩

end Go.Proofs.YtkpcjppnjmhanaaGreatDoor
namespace Go.Proofs.YtkpcjppnjmhanaaGreatDoor
open VwM Vw Go
variable [SentA]

end Go.Proofs.YtkpcjppnjmhanaaGreatDoor
namespace Go.Proofs.YtkpcjppnjmhanaaGreatDoor
open VwM Vw Go
variable [SentA]

/-- A value can be stored everywhere. -/
def filB (mem:List Int) (b:Int) (sh st:List Int) (x:Int):Bool:=seeB mem b sh st && (decide (0 ≤ x) && decide (x ≤ 255))
def filL (mem:List Int) (b:Int) (sh st:List Int) (x:Int):List Int:=putL mem (offs b sh st) (rpt [x] (pr sh).toNat)
theorem rpt_at {x:Int} {n k:Nat} (h:k < n):(rpt [x] n).getD k 0=x:=by rw [rpt_one];simp [List.getD,h]


set_option maxHeartbeats 8000000 in
theorem sFill_ok (mem:List Int) (b:Int) (sh st:List Int) (x:Int) (q n m:Nat) (hq:mem.length=q) (hn:sh.length=n) (hm:st.length=m) (hb:q ≤ 1099511627776 ∧ n ≤ 1099511627776 ∧ m ≤ 1099511627776):BCall Tryz.prog 61 [.rows false (IL mem) q,.agg [.int .i64 b,.rows false (IL sh) n,.rows false (IL st) m],.int .i64 x] [] (TB (filB mem b sh st x) (filL mem b sh st x)):=by
  subst hq hn hm
  refine Auz (pins:=[]) (pin:=0) l61_eq rfl rfl rfl ?_
  unfold filB
  cases h1:seeB mem b sh st with
  | false =>
    (repeat' (first
 | (first|refine Agz ?_|refine Abz ?_)
 | ((first|refine Ahz ?_|refine Adz ?_);simp (disch:=omega) only [push_cast,seval,l61r0,l61r1,l61r2,l61r3,l61r4,l61r5,l61r6,l61r7,l61r8,l61r9,h1])
 | ((first|refine Alz false ?_);simp (disch:=omega) only [push_cast,seval,h1])
 | ((first|((first|refine Akz (Ajz (Dmz _ _ _ _ _ _ _ ?_ ?_ ?_ ?_)) ?_|refine Aiz (Ajz (Dmz _ _ _ _ _ _ _ ?_ ?_ ?_ ?_)) ⟨_,_,rfl,rfl⟩ ?_);(iterate 4 (exact sd));rintro _ _ ⟨rfl,rfl⟩))<;>(try simp (disch:=omega) only [push_cast,seval,h1]))
 | (refine Aez ⟨.inr rfl,[16000],[(16000,1)],_,by decide,rfl,?_⟩;(try simp (disch:=omega) only [push_cast,seval,↓Afz,↓Acz,↓List.map_cons,↓List.map_nil,h1]))))
    all_goals simp [TB,MVL]
  | true =>
  obtain ⟨f1,f2,f3,f4,f5,f6⟩:=Cfz h1
  by_cases hx:0 ≤ x ∧ x ≤ 255
  · have hx':(decide (0 ≤ x) && decide (x ≤ 255))=true:=by simp [hx]
    have hxa:allI [x] 0 255=true:=by simp [allI,hx]
    obtain ⟨hx1,hx2⟩:=hx
    have hol:=A6z b sh st
    have hml:mem.length ≤ 1099511627776:=by omega
    have q1:okV b sh st ∧ st.length=sh.length:=⟨f1,f2⟩
    obtain ⟨c,hc⟩:∃ c:Nat,pr sh=(c:Int):=⟨(pr sh).toNat,by omega⟩
    have hcn:(pr sh).toNat=c:=by omega
    have hck:c ≤ 1000:=by omega
    have hrl:(rpt [x] c).length=c:=by rw [Kiz];simp
    have k1:seeB mem b sh st=true ∧ (c:Int)=pr sh:=⟨h1,by omega⟩
    have hpl:=Bsz mem (offs b sh st) (rpt [x] c)
    rw [hx',filL,hcn]
    have hat:=fun k hk=>Ixz (k:=k) h1 hk
    rw [hcn] at hol
    generalize hL:offs b sh st=L at *
    clear k1
    (repeat' (first
 | (first|refine Agz ?_|refine Abz ?_)
 | ((first|refine Ahz ?_|refine Adz ?_|refine Aoz ?_);simp (disch:=omega) only [push_cast,seval,l61r0,l61r1,l61r2,l61r3,l61r4,l61r5,l61r6,l61r7,l61r8,l61r9,h1,hx1,hx2,hL])
 | ((first|refine Alz false ?_);simp (disch:=omega) only [push_cast,seval,h1,hx1,hx2,hL])
 | ((first|((first|refine Akz (Ajz (Dmz _ _ _ _ _ _ _ ?_ ?_ ?_ ?_)) ?_|refine Aiz (Ajz (Dmz _ _ _ _ _ _ _ ?_ ?_ ?_ ?_)) ⟨_,_,rfl,rfl⟩ ?_);(iterate 4 (exact sd));rintro _ _ ⟨rfl,rfl⟩)|((first|refine Akz (Ajz (Atz _ _ _)) ?_|refine Aiz (Ajz (Atz _ _ _)) ⟨_,_,rfl,rfl⟩ ?_);rintro _ _ ⟨rfl,rfl⟩)|((first|refine Akz (Coz _ _ ?_ ?_) ?_|refine Aiz (Coz _ _ ?_ ?_) ⟨_,_,rfl,rfl⟩ ?_);(iterate 2 (exact sd));rintro _ _ ⟨rfl,rfl⟩)|((first|refine Akz (Boz _ _ _ _ _ ?_ ?_ ?_) ?_|refine Aiz (Boz _ _ _ _ _ ?_ ?_ ?_) ⟨_,_,rfl,rfl⟩ ?_);(iterate 3 (exact sd));rintro _ _ ⟨rfl,rfl⟩))<;>(try simp (disch:=omega) only [push_cast,seval,h1,hx1,hx2,hL]))
 | (refine Aez ⟨.inr rfl,[336],[],_,by decide,rfl,?_⟩;(try simp (disch:=omega) only [push_cast,seval,↓Afz,↓Acz,↓List.map_cons,↓List.map_nil,h1,hx1,hx2,hL]))))
    refine A7z (fun k:Nat=>mkS [(2,.int .i64 x),(8,.own 336 mem.length 1),(9,.own 368 L.length 1),(10,.int .i64 k)] [(336,IL (putK mem L (rpt [x] c) k)),(368,IL L)])
      (fun k=>k ≤ L.length) (fun k=>L.length - k) 0 (Nat.zero_le _) ?_ ?_
    · have e0:putK mem L (rpt [x] c) 0=mem:=rfl
      (refine Sub.of_lists ?_ ?_ ?_ ?_ ?_<;>simp [Vw.mkS,Vw.lk,Vw.hk,AV.inn,innL,Apz,Anz,Aqz,-List.map_set,-List.getD_eq_getElem?_getD,e0])
    · intro k hk
      have e1:=C3z mem L (rpt [x] c) k
      by_cases hlt:k < L.length
      · obtain ⟨g1,g2⟩:=hat k hlt
        have g3:(L.getD k 0).toNat < mem.length:=by omega
        have e2:putK mem L (rpt [x] c) (k + 1)=(putK mem L (rpt [x] c) k).set (L.getD k 0).toNat x:=by simp only [putK];rw [rpt_at (by omega)]
        generalize putK mem L (rpt [x] c) k=p at *
        (repeat' (first
 | (first|refine Agz ?_|refine Abz ?_)
 | ((first|refine Ahz ?_|refine Adz ?_|refine Aoz ?_);simp (disch:=omega) only [push_cast,seval,l61r0,l61r1,l61r2,l61r3,l61r4,l61r5,l61r6,l61r7,l61r8,l61r9,e1])
 | ((first|refine Amz (fun h=>?_) (fun h=>?_))<;>(try simp only [h])<;>(try simp only [bitvec_to_nat] at h)<;>(try simp only [h])<;>(first|(exfalso;omega)|(exfalso;simp_all;done)|(simp (disch:=omega) only [push_cast,seval,e1])|skip))
 | (refine Aez ⟨.inr rfl,[336],[],_,by decide,rfl,?_⟩;(try simp (disch:=omega) only [push_cast,seval,↓Afz,↓Acz,↓List.map_cons,↓List.map_nil,e1]))))
        refine ⟨k + 1,by omega,by omega,?_⟩
        (refine Sub.of_lists ?_ ?_ ?_ ?_ ?_<;>simp [Vw.mkS,Vw.lk,Vw.hk,AV.inn,innL,Apz,Anz,Aqz,-List.map_set,-List.getD_eq_getElem?_getD,e2,Bkz])
      · have hke:k=L.length:=by omega
        have e3:putK mem L (rpt [x] c) k=putL mem L (rpt [x] c):=by rw [hke];rfl
        rw [e3]
        (repeat' (first
 | (first|refine Agz ?_|refine Abz ?_)
 | ((first|refine Ahz ?_|refine Adz ?_|refine A1z ?_);simp (disch:=omega) only [push_cast,seval,l61r0,l61r1,l61r2,l61r3,l61r4,l61r5,l61r6,l61r7,l61r8,l61r9,hpl])
 | ((first|refine Amz (fun h=>?_) (fun h=>?_))<;>(try simp only [h])<;>(try simp only [bitvec_to_nat] at h)<;>(try simp only [h])<;>(first|(exfalso;omega)|(exfalso;simp_all;done)|(simp (disch:=omega) only [push_cast,seval,hpl])|skip))
 | (refine Aez ⟨.inr rfl,[336],[],_,by decide,rfl,?_⟩;(try simp (disch:=omega) only [push_cast,seval,↓Afz,↓Acz,↓List.map_cons,↓List.map_nil,hpl]))))
        all_goals simp [TB,MVL,hpl]
  · have hx':(decide (0 ≤ x) && decide (x ≤ 255))=false:=by
      rw [Bool.eq_false_iff]
      intro h
      simp at h
      exact hx h
    have hxa:allI [x] 0 255=false:=by
      rw [Bool.eq_false_iff]
      intro h
      simp [allI] at h
      exact hx h
    rw [hx']
    (repeat' (first
 | (first|refine Agz ?_|refine Abz ?_)
 | ((first|refine Ahz ?_|refine Adz ?_);simp (disch:=omega) only [push_cast,seval,l61r0,l61r1,l61r2,l61r3,l61r4,l61r5,l61r6,l61r7,l61r8,l61r9,h1,hx',hxa])
 | ((first|refine Alz false ?_);simp (disch:=omega) only [push_cast,seval,h1,hx',hxa])
 | ((first|((first|refine Akz (Ajz (Dmz _ _ _ _ _ _ _ ?_ ?_ ?_ ?_)) ?_|refine Aiz (Ajz (Dmz _ _ _ _ _ _ _ ?_ ?_ ?_ ?_)) ⟨_,_,rfl,rfl⟩ ?_);(iterate 4 (exact sd));rintro _ _ ⟨rfl,rfl⟩)|((first|refine Akz (Ajz (Atz _ _ _)) ?_|refine Aiz (Ajz (Atz _ _ _)) ⟨_,_,rfl,rfl⟩ ?_);rintro _ _ ⟨rfl,rfl⟩))<;>(try simp (disch:=omega) only [push_cast,seval,h1,hx',hxa]))
 | (refine Aez ⟨.inr rfl,[16000],[(16000,1)],_,by decide,rfl,?_⟩;(try simp (disch:=omega) only [push_cast,seval,↓Afz,↓Acz,↓List.map_cons,↓List.map_nil,h1,hx',hxa]))))
    all_goals simp [TB,MVL]

end Go.Proofs.YtkpcjppnjmhanaaGreatDoor
namespace Go.Proofs.YtkpcjppnjmhanaaGreatDoor
open VwM Vw Go
variable [SentA]

open Go.RowKit Go.Extern.Stop Go.Stop Go.Extern in
open Go.RowKit Go.Extern.Stop Go.Stop Go.Extern in
theorem isTypeOf1 (v:Value) (w:World):(Extern.ReflectliteType.typeOf #[.iface 200 v]).run Tryz.prog w=.ok (.iface 138 (.agg #[.pointer (some ⟨1,200,none⟩)])) w:=by kernel_rfl
open Go.RowKit Go.Extern.Stop Go.Stop Go.Extern Go.Extern.ReflectliteType in
theorem isComparable (w : World) : ((Extern.ReflectliteType.method fun t => do Extern.Rtype.noPackHeld "Comparable" t; pure (.bool (← typeInfo t).comparable)) #[.agg #[.pointer (some ⟨1,200,none⟩)]]).run Tryz.prog w = .ok (.bool true) w := by kernel_rfl
open Go.RowKit Go.Extern.Stop Go.Stop Go.Extern Go.Extern.ReflectliteType in
theorem Lkz (w:World):Sem.run Tryz.prog (callFunc 206 #[.agg #[.pointer (some ⟨1,200,none⟩)]]) w=Result.ok (Next.value (Value.bool true)) w:=by
  have h := @run_callFunc_extern Tryz.prog 206 _ (Extern.ReflectliteType.method fun t => do Extern.Rtype.noPackHeld "Comparable" t; pure (.bool (← typeInfo t).comparable)) Tryz.func206 (by kernel_rfl) (by kernel_rfl) (by kernel_rfl) (by kernel_rfl)
  rw [h,isComparable]
  rfl
theorem Hfz (v : Value) (w : World) : (Go.method 337 138 v "Comparable").run Tryz.prog w = .ok (206,v) w := by kernel_rfl
theorem isComp:(Tryz.prog.info? 200).map (·.comparable)=some true:=by kernel_rfl
theorem isSize:(Tryz.prog.info? 225).map (·.size)=some 1:=by kernel_rfl
open Go.RowKit Go.Extern.Stop Go.Stop Go.Extern in
set_option maxHeartbeats 16000000 in
theorem is_same (a:Addr) (w:World) :
    Calls Tryz.prog 43 #[.iface 200 (.pointer (some a)),.iface 200 (.pointer (some a))] w fun e w'=>e=.returned (.bool true) ∧ w'=w:=by
  obtain ⟨i,hi,hcmp⟩:=Option.map_eq_some_iff.1 isComp
  obtain ⟨j,hj,hjs⟩:=Option.map_eq_some_iff.1 isSize
  have h8:=@run_callFunc_extern Tryz.prog 81 _ Extern.ReflectliteType.typeOf Tryz.func81 (by kernel_rfl) (by kernel_rfl) (by kernel_rfl) (by kernel_rfl)
  have h32:=Lkz
  have tT:=isTypeOf1
  have mR:=Hfz
  have heq:=run_eql_iface_ptr_same (P:=Tryz.prog) w a Tryz.underlying64 Tryz.underlying200 hi hcmp hj
  go_enter Tryz.func43,Tryz.ntmps43
  go_wp2
  all_goals (try (refine wp_loop_rounds 1 ?_;rw [rounds_succ];go_wp2))
  all_goals (try (go_ret;exact ⟨rfl,rfl⟩))
open Go.RowKit Go.Extern.Stop Go.Stop Go.Extern in
theorem is_nil (b:Addr) (w:World) :
    Calls Tryz.prog 43 #[.nilIface,.iface 200 (.pointer (some b))] w fun e w'=>e=.returned (.bool false) ∧ w'=w:=by
  have hn:=run_eql_iface_nil_left (P:=Tryz.prog) w 200 (.pointer (some b)) Tryz.underlying64
  go_enter Tryz.func43,Tryz.ntmps43
  go_wp2
  go_ret
  exact ⟨rfl,rfl⟩

end Go.Proofs.YtkpcjppnjmhanaaGreatDoor
namespace Go.Proofs.YtkpcjppnjmhanaaGreatDoor
open VwM Vw Go
variable [SentA]

theorem hang_false {d id kid n:Nat} {k:Int} {ks:List Int} {σ:List (Nat × AV)} {H:List (Nat × List AV)} {K:S → Prop} (h0:hk H id=some [.own kid n 1]) (h1:hk H kid=some (IL ks)) (hf:hk H 224=none ∧ hk H 304=none)
    (hK:K (mkS ((d,.ref 304 1 0) :: σ) ((304,[.val (.slice none 0 0)]) :: H))):callE Tryz.prog 0 83 [.ref id 1 0,.int .i64 k,.bool false] (some d) K σ H:=by
  obtain ⟨hf1,hf2⟩:=hf
  intro args ha
  refine Cqz ?_
  rw [ha]
  refine J1z l83_eq rfl ?_
  show awpK Tryz.prog 0 _ _ (mkS [(0,.ref id 1 0),(1,.int .i64 k),(2,.bool false)] H)
  repeat' (first
    | (refine awpK_seq ?_)
    | (refine awpK_reg rfl ?_;simp (disch:=omega) only [push_cast,seval,l83r0,l83r1,l83r2,l83r3,h0,h1,hf1,hf2])
    | (refine awpK_cond false rfl (fun h=>by cases h) (fun _=>?_))
    | (refine awpK_skip ?_;simp (disch:=omega) only [push_cast,seval])
    | (refine awpK_ret ⟨.inr rfl,_,rfl,?_⟩))
  all_goals (show K ⟨upd (lk σ) d (.ref 304 1 0),hk ((304,[.val (.slice none 0 0)]) :: H)⟩;rw [upd_lk];exact hK)
theorem hang_true {d id kid n:Nat} {k:Int} {ks:List Int} {σ:List (Nat × AV)} {H:List (Nat × List AV)} {K:S → Prop} (h0:hk H id=some [.own kid n 1]) (h1:hk H kid=some (IL ks)) (hn:ks.length=n) (hb:n ≤ 1000) (hi:id ≠ kid) (hf:hk H 224=none ∧ hk H 304=none)
    (hK:K (mkS ((d,.ref 304 1 0) :: σ) ((304,[.val (.slice none 0 0)]) :: (id,[.own kid (n + 1) 1]) :: (kid,IL ks ++ [.int .i64 k]) :: (224,[.int .i64 k]) :: H))):callE Tryz.prog 0 83 [.ref id 1 0,.int .i64 k,.bool true] (some d) K σ H:=by
  obtain ⟨hf1,hf2⟩:=hf
  have e1:(id=224)=False:=propext ⟨fun e=>by rw [e,hf1] at h0;exact (by cases h0),False.elim⟩
  have e2:(kid=224)=False:=propext ⟨fun e=>by rw [e,hf1] at h1;exact (by cases h1),False.elim⟩
  have e3:(id=kid)=False:=propext ⟨fun e=>hi e,False.elim⟩
  have e4:(304=id)=False:=propext ⟨fun e=>by rw [← e,hf2] at h0;exact (by cases h0),False.elim⟩
  have e5:(304=kid)=False:=propext ⟨fun e=>by rw [← e,hf2] at h1;exact (by cases h1),False.elim⟩
  have hil:(IL ks).length=n:=by unfold IL;simpa using hn
  intro args ha
  refine Cqz ?_
  rw [ha]
  refine J1z l83_eq rfl ?_
  show awpK Tryz.prog 0 _ _ (mkS [(0,.ref id 1 0),(1,.int .i64 k),(2,.bool true)] H)
  repeat' (first
    | (refine awpK_seq ?_)
    | (refine awpK_reg rfl ?_;simp (disch:=omega) only [push_cast,seval,l83r0,l83r1,l83r2,l83r3,h0,h1,hf1,hf2,e1,e2,e3,e4,e5,hil])
    | (refine awpK_cond true rfl (fun _=>?_) (fun h=>by cases h))
    | (refine awpK_skip ?_;simp (disch:=omega) only [push_cast,seval])
    | (refine awpK_ret ⟨.inr rfl,_,rfl,?_⟩))
  all_goals (show K ⟨upd (lk σ) d (.ref 304 1 0),_⟩;rw [upd_lk];exact hK)

end Go.Proofs.YtkpcjppnjmhanaaGreatDoor
namespace Go.Proofs.YtkpcjppnjmhanaaGreatDoor
open VwM Vw Go
variable [SentA]

theorem SubW.rfl' {pin:Nat} {s:S}:SubW pin s s:=fun E M x w _ h=>⟨M,h⟩
theorem Kzz {P:Program} {pin f:Nat} {avs:List AV} {dst:Option Nat} {K:S → Prop} {σ:List (Nat × AV)} {H:List (Nat × List AV)} (h:callE P pin f avs dst (fun s'=>∃ s1,SubW pin s' s1 ∧ K s1) σ H):callE P pin f avs dst K σ H:=fun args ha E M a w hp hd hst=>by
  refine (h args ha E M a w hp hd hst).mono fun e w' ⟨M',s',v,⟨s1,hsub,hk⟩,he,hst'⟩=>?_
  obtain ⟨M'',h1⟩:=hsub E M' _ w' hp hst'
  exact ⟨M'',s1,v,hk,he,h1⟩
theorem adHL_id (t id sz:Nat):∀ H:List (Nat × List AV),hk H t=none → adHL [t] id sz H=H
  | [],_=>rfl
  | p :: r,h=>by
    simp only [hk] at h
    split at h
    · cases h
    · rename_i hne
      simp only [adHL,List.map_cons]
      have ih:=adHL_id t id sz r h
      simp only [adHL] at ih
      rw [ih]
      have:([t].contains p.1)=false:=by simp;exact fun e=>hne e.symm
      rw [this];rfl


theorem hang_no {d id kid n:Nat} {k:Int} {ks:List Int} {σ:List (Nat × AV)} {H:List (Nat × List AV)} {K:S → Prop} (h0:hk H id=some [.own kid n 1]) (h1:hk H kid=some (IL ks)) (hf:hk H 224=none ∧ hk H 304=none ∧ hk H 16000=none)
    (hK:K (mkS ((d,.ref 304 1 0) :: σ) ((16000,[]) :: (304,[.own 16000 0 1]) :: H))):callE Tryz.prog 0 83 [.ref id 1 0,.int .i64 k,.bool false] (some d) K σ H:=by
  refine Kzz (hang_false h0 h1 ⟨hf.1,hf.2.1⟩ ⟨_,?_,hK⟩)
  refine SubW.adoptH [304] 16000 1 (by simp [hk,hf.2.2]) ?_
  have e:adHL [304] 16000 1 ((304,[AV.val (.slice none 0 0)]) :: H)=(304,[.own 16000 0 1]) :: H:=by
    have:=adHL_id 304 16000 1 H hf.2.1
    simp only [adHL,List.map_cons] at this ⊢
    rw [this];rfl
  rw [e]
  exact SubW.rfl'
theorem hang_yes {d id kid n:Nat} {k:Int} {ks:List Int} {σ:List (Nat × AV)} {H:List (Nat × List AV)} {K:S → Prop} (h0:hk H id=some [.own kid n 1]) (h1:hk H kid=some (IL ks)) (hn:ks.length=n) (hb:n ≤ 1000) (hi:id ≠ kid) (hf:hk H 224=none ∧ hk H 304=none ∧ hk H 16000=none)
    (hK:K (mkS ((d,.ref 304 1 0) :: σ) ((16000,[]) :: (304,[.own 16000 0 1]) :: (id,[.own kid (n + 1) 1]) :: (kid,IL (ks ++ [k])) :: (224,[.int .i64 k]) :: H))):callE Tryz.prog 0 83 [.ref id 1 0,.int .i64 k,.bool true] (some d) K σ H:=by
  have n1:id ≠ 304:=fun e=>by rw [e,hf.2.1] at h0;cases h0
  have n2:kid ≠ 304:=fun e=>by rw [e,hf.2.1] at h1;cases h1
  have n3:id ≠ 16000:=fun e=>by rw [e,hf.2.2] at h0;cases h0
  have n4:kid ≠ 16000:=fun e=>by rw [e,hf.2.2] at h1;cases h1
  refine Kzz (hang_true h0 h1 hn hb hi ⟨hf.1,hf.2.1⟩ ⟨_,?_,hK⟩)
  refine SubW.adoptH [304] 16000 1 (by simp [hk,hf.2.2,Ne.symm n3,Ne.symm n4]) ?_
  have e:adHL [304] 16000 1 ((304,[AV.val (.slice none 0 0)]) :: (id,[.own kid (n + 1) 1]) :: (kid,IL ks ++ [.int .i64 k]) :: (224,[.int .i64 k]) :: H)=(304,[.own 16000 0 1]) :: (id,[.own kid (n + 1) 1]) :: (kid,IL (ks ++ [k])) :: (224,[.int .i64 k]) :: H:=by
    have hx:=adHL_id 304 16000 1 ((id,[.own kid (n + 1) 1]) :: (kid,IL ks ++ [.int .i64 k]) :: (224,[.int .i64 k]) :: H) (by simp [hk,hf.2.1,Ne.symm n1,Ne.symm n2])
    simp only [adHL,List.map_cons] at hx ⊢
    rw [hx]
    unfold IL
    simp [adA]
  rw [e]
  exact SubW.rfl'


def heldV [SentA] (n:Nat):Value:=if 0 < n then .iface 200 (.pointer (some SentA.a)) else .nilIface
theorem Eaz {ρ:Nat → Option Nat} {Z:Nat → Option (List AV)} {b0:Bool} {φ:Bool → Option Bool} {m:Nat} (n:Nat):AV.ren ρ Z b0 φ (m + 1) (.val (heldV n))=.val (heldV n):=by unfold heldV;split<;>rfl
theorem Eyz (σ:List (Nat × AV)) (H:List (Nat × List AV)):(mkS σ H).ev (.global 0)=.prow false [.val (.iface 200 (.pointer (some SentA.a)))] 0:=rfl
theorem Kmz:ofVal Value.nilIface=.val .nilIface:=rfl
theorem fzIf (H:Nat → Option (List AV)) (t:TypeId) (v:Value):AV.fz H 5 (.val (.iface t v))=.val (.iface t v):=rfl
theorem fzNi (H:Nat → Option (List AV)):AV.fz H 5 (.val .nilIface)=.val .nilIface:=rfl
theorem L2z (ks:List Int) (n:Nat) (hn:ks.length=n) (hb:n ≤ 1000):PCall Tryz.prog 45 [.prow false [.rows false (IL ks) n] 0] (fun r=>r=.val (heldV n)):=by
  subst hn
  refine Awz l45_eq rfl ?_
  unfold heldV
  by_cases h:0 < ks.length
  · rw [if_pos h]
    (repeat' (first
 | (first|refine Agz ?_|refine Abz ?_)
 | ((first|refine Ahz ?_|refine Adz ?_);simp (disch:=omega) only [push_cast,seval,l45r0,l45r1,l45r2,l45r3,Eyz,Kmz,fzIf,fzNi])
 | ((first|refine Amz (fun h=>?_) (fun h=>?_))<;>(try simp only [h])<;>(try simp only [bitvec_to_nat] at h)<;>(try simp only [h])<;>(first|(exfalso;omega)|(exfalso;simp_all;done)|(simp (disch:=omega) only [push_cast,seval,Eyz,Kmz,fzIf,fzNi])|skip))
 | (refine Aez ⟨.inr rfl,_,rfl,?_⟩;(try simp (disch:=omega) only [push_cast,seval,Eyz,Kmz,fzIf,fzNi]))))
  · rw [if_neg h]
    (repeat' (first
 | (first|refine Agz ?_|refine Abz ?_)
 | ((first|refine Ahz ?_|refine Adz ?_|refine Aoz ?_);simp (disch:=omega) only [push_cast,seval,l45r0,l45r1,l45r2,l45r3,Eyz,Kmz,fzIf,fzNi])
 | ((first|refine Amz (fun h=>?_) (fun h=>?_))<;>(try simp only [h])<;>(try simp only [bitvec_to_nat] at h)<;>(try simp only [h])<;>(first|(exfalso;omega)|(exfalso;simp_all;done)|(simp (disch:=omega) only [push_cast,seval,Eyz,Kmz,fzIf,fzNi])|skip))
 | (refine Aez ⟨.inr rfl,_,rfl,?_⟩;(try simp (disch:=omega) only [push_cast,seval,Eyz,Kmz,fzIf,fzNi]))))

end Go.Proofs.YtkpcjppnjmhanaaGreatDoor
