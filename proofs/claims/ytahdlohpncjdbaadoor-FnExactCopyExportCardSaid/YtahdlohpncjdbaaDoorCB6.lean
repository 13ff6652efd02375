/- Texts of this verifier. -/
import Derived.Test.YtahdlohpncjdbaaDoorCB5
import Derived.Test.YtahdlohpncjdbaaDoorCM1
import Derived.Test.YtahdlohpncjdbaaDoorCW3
import Derived.WalkKit
import Derived.LaidEql
import Derived.Stop.Asserts
import Derived.RowKitTokens
set_option linter.unusedSimpArgs false
set_option linter.unusedVariables false
set_option maxRecDepth 4000
set_option maxHeartbeats 4000000
namespace Go.Proofs.YtahdlohpncjdbaaDoor
open VwM Vw Go
set_option linter.unusedSectionVars false
variable [SentA]

/-- A list and whether there is one: nothing without. -/
abbrev TB (v:Bool) (l:List Int):AV → List (List AV) → Prop:=fun r H'=>r=.tup [.own 0 (MVL v l).length 1,.bool v] ∧ H'=[IL (MVL v l)]
theorem MVL_true (l:List Int):MVL true l=l:=rfl
theorem MVL_false (l:List Int):MVL false l=[]:=rfl
theorem two_facts {mem:List Int} {b b':Int} {sh st sh' st':List Int} (h:twoB mem b sh st b' sh' st'=true):seeB mem b sh st=true ∧ seeB mem b' sh' st'=true ∧ sh=sh':=by
  simp only [twoB,Bool.and_eq_true,decide_eq_true_eq] at h
  exact ⟨h.1.1,h.1.2,h.2⟩
set_option maxHeartbeats 8000000 in
theorem sCopy_ok (mem:List Int) (b:Int) (sh st:List Int) (b':Int) (sh' st':List Int) (q n m n' m':Nat) (hq:mem.length=q) (hn:sh.length=n) (hm:st.length=m) (hn':sh'.length=n') (hm':st'.length=m') (hb:(q ≤ 1099511627776 ∧ n ≤ 1099511627776 ∧ m ≤ 1099511627776) ∧ n' ≤ 1099511627776 ∧ m' ≤ 1099511627776):BCall Tryd.prog 50 [.rows false (IL mem) q,.agg [.int .i64 b,.rows false (IL sh) n,.rows false (IL st) m],.agg [.int .i64 b',.rows false (IL sh') n',.rows false (IL st') m']] [] (TB (twoB mem b sh st b' sh' st') (putL mem (offs b sh st) (takesL mem (offs b' sh' st')))):=by
  subst hq hn hm hn' hm'
  obtain ⟨⟨hb0,hb1,hb2⟩,hb3,hb4⟩:=hb
  have q0:(mem.length ≤ 1099511627776 ∧ sh.length ≤ 1099511627776 ∧ st.length ≤ 1099511627776) ∧ sh'.length ≤ 1099511627776 ∧ st'.length ≤ 1099511627776:=⟨⟨hb0,hb1,hb2⟩,hb3,hb4⟩
  refine A4z (pins:=[]) (pin:=0) l50_eq rfl rfl rfl ?_
  cases h:twoB mem b sh st b' sh' st' with
  | false =>
    (repeat' (first
 | (first|refine Akz ?_|refine Afz ?_)
 | ((first|refine Alz ?_|refine Asz (mid:=l50r3a) (post:=l50r3b) A9z (by decide) ?_|refine Aez ?_|refine Agz ?_|refine Ahz ?_);simp (disch:=omega) only [push_cast,seval,l50r0,l50r1,l50r2,l50r3a,l50r3b,l50r3,h])
 | ((first|refine Aaz ?_ ?_|refine Adz ?_ ?_|refine Acz ?_ ?_)<;>intro h<;>(try simp only [h])<;>(try simp only [bitvec_to_nat] at h)<;>(try simp only [h])<;>(first|(exfalso;omega)|(exfalso;simp_all;done)|(simp (disch:=omega) only [push_cast,seval,h])|skip))
 | ((first|refine callD_of false ?_|refine Ajz false ?_);simp (disch:=omega) only [push_cast,seval,h])
 | ((first|((first|refine call0D (BCall.ofP (I0z _ _ _ _ _ _ _ _ _ _ _ _ ?_ ?_ ?_ ?_ ?_ ?_)) ?_|refine qcall0D (BCall.ofP (I0z _ _ _ _ _ _ _ _ _ _ _ _ ?_ ?_ ?_ ?_ ?_ ?_)) ⟨_,_,rfl,rfl⟩ ?_);(iterate 6 (exact sd));rintro _ _ ⟨rfl,rfl⟩)|((first|refine call0D (sload_ok _ _ _ _ _ _ _ ?_ ?_ ?_ ?_) ?_|refine qcall0D (sload_ok _ _ _ _ _ _ _ ?_ ?_ ?_ ?_) ⟨_,_,rfl,rfl⟩ ?_);(iterate 4 (exact sd));rintro _ _ ⟨rfl,rfl⟩)|((first|refine call0D (sput_ok _ _ _ _ _ _ _ _ _ ?_ ?_ ?_ ?_ ?_) ?_|refine qcall0D (sput_ok _ _ _ _ _ _ _ _ _ ?_ ?_ ?_ ?_ ?_) ⟨_,_,rfl,rfl⟩ ?_);(iterate 5 (exact sd));rintro _ _ ⟨rfl,rfl⟩))<;>(try simp (disch:=omega) only [push_cast,seval,h]))
 | (refine Aiz ⟨.inr rfl,[16000],[(16000,1)],_,by decide,rfl,?_⟩;(try simp (disch:=omega) only [push_cast,seval,↓Anz,↓Amz,↓List.map_cons,↓List.map_nil,h]))))
    all_goals simp [TB,MVL]
  | true =>
    obtain ⟨h1,h2,h3⟩:=two_facts h
    subst h3
    obtain ⟨f1,f2,f3,f4,f5,f6⟩:=Cpz h1
    obtain ⟨g1,g2,_,_,_,_⟩:=Cpz h2
    have o1:=Blz b sh st
    have o2:=Blz b' sh st'
    have c1:=(Dpz.1 h1).2.2
    have c2:=(Dpz.1 h2).2.2
    have q1:okV b sh st ∧ st.length=sh.length:=⟨f1,f2⟩
    have q2:okV b' sh st' ∧ st'.length=sh.length:=⟨g1,g2⟩
    have hp:(pr sh).toNat ≤ 60:=by omega
    have hpc:(((pr sh).toNat:Nat):Int)=pr sh:=by omega
    have hsp:∃ c:Nat,pr sh=(c:Int) ∧ c ≤ 60:=⟨(pr sh).toNat,by omega,by omega⟩
    obtain ⟨c,hc,hc60⟩:=hsp
    have hlL:(offs b sh st).length=c:=by omega
    have hlL':(offs b' sh st').length=c:=by omega
    generalize hL:offs b sh st=L at *
    generalize hL':offs b' sh st'=L' at *
    have tl:=Dvz mem L'
    have k1:seeB mem b sh st=true ∧ (L'.length:Int)=pr sh:=⟨h1,by omega⟩
    have k2:(c=c ∧ c=c ∧ mem.length ≤ 60 ∧ c ≤ 60) ∧ (∀ x ∈ L,0 ≤ x ∧ x ≤ (mem.length:Int) - 1) ∧ ∀ x ∈ L',0 ≤ x ∧ x ≤ (mem.length:Int) - 1:=⟨⟨rfl,rfl,f6,hc60⟩,c1,c2⟩
    have k3:(c=c ∧ mem.length ≤ 60 ∧ c ≤ 60) ∧ (∀ x ∈ L,0 ≤ x ∧ x ≤ (mem.length:Int) - 1) ∧ ∀ x ∈ L',0 ≤ x ∧ x ≤ (mem.length:Int) - 1:=⟨⟨rfl,f6,hc60⟩,c1,c2⟩
    have k4:(c=c ∧ mem.length ≤ 60 ∧ c ≤ 60) ∧ (∀ x ∈ L.reverse,0 ≤ x ∧ x ≤ (mem.length:Int) - 1) ∧ ∀ x ∈ L'.reverse,0 ≤ x ∧ x ≤ (mem.length:Int) - 1:=⟨⟨rfl,f6,hc60⟩,fun x hx=>c1 x (List.mem_reverse.1 hx),fun x hx=>c2 x (List.mem_reverse.1 hx)⟩
    have k5:c ≤ 1000:=by omega
    have lrL:L.reverse.length=c:=by rw [List.length_reverse];exact hlL
    have lrL':L'.reverse.length=c:=by rw [List.length_reverse];exact hlL'
    (repeat' (first
 | (first|refine Akz ?_|refine Afz ?_)
 | ((first|refine Alz ?_|refine Asz (mid:=l50r3a) (post:=l50r3b) A9z (by decide) ?_|refine Aez ?_|refine Agz ?_|refine Ahz ?_);simp (disch:=omega) only [push_cast,seval,l50r0,l50r1,l50r2,l50r3a,l50r3b,l50r3,h,hL,hL',hc,hlL,hlL',tl,lrL,lrL',List.length_reverse,Bmz,Int.toNat_natCast])
 | ((first|refine Aaz ?_ ?_|refine Adz ?_ ?_|refine Acz ?_ ?_)<;>intro h<;>(try simp only [h])<;>(try simp only [bitvec_to_nat] at h)<;>(try simp only [h])<;>(first|(exfalso;omega)|(exfalso;simp_all;done)|(simp (disch:=omega) only [push_cast,seval,h,hL,hL',hc,hlL,hlL',tl,lrL,lrL',List.length_reverse,Bmz,Int.toNat_natCast])|skip))
 | ((first|refine callD_of false ?_|refine Ajz false ?_);simp (disch:=omega) only [push_cast,seval,h,hL,hL',hc,hlL,hlL',tl,lrL,lrL',List.length_reverse,Bmz,Int.toNat_natCast])
 | ((first|((first|refine call0D (BCall.ofP (I0z _ _ _ _ _ _ _ _ _ _ _ _ ?_ ?_ ?_ ?_ ?_ ?_)) ?_|refine qcall0D (BCall.ofP (I0z _ _ _ _ _ _ _ _ _ _ _ _ ?_ ?_ ?_ ?_ ?_ ?_)) ⟨_,_,rfl,rfl⟩ ?_);(iterate 6 (exact sd));rintro _ _ ⟨rfl,rfl⟩)|((first|refine call0D (sload_ok _ _ _ _ _ _ _ ?_ ?_ ?_ ?_) ?_|refine qcall0D (sload_ok _ _ _ _ _ _ _ ?_ ?_ ?_ ?_) ⟨_,_,rfl,rfl⟩ ?_);(iterate 4 (exact sd));rintro _ _ ⟨rfl,rfl⟩)|((first|refine call0D (sput_ok _ _ _ _ _ _ _ _ _ ?_ ?_ ?_ ?_ ?_) ?_|refine qcall0D (sput_ok _ _ _ _ _ _ _ _ _ ?_ ?_ ?_ ?_ ?_) ⟨_,_,rfl,rfl⟩ ?_);(iterate 5 (exact sd));rintro _ _ ⟨rfl,rfl⟩))<;>(try simp (disch:=omega) only [push_cast,seval,h,hL,hL',hc,hlL,hlL',tl,lrL,lrL',List.length_reverse,Bmz,Int.toNat_natCast]))
 | (refine Aiz ⟨.inr rfl,[288],[],_,by decide,rfl,?_⟩;(try simp (disch:=omega) only [push_cast,seval,↓Anz,↓Amz,↓List.map_cons,↓List.map_nil,h,hL,hL',hc,hlL,hlL',tl,lrL,lrL',List.length_reverse,Bmz,Int.toNat_natCast]))))
    all_goals simp [TB,MVL]


set_option maxHeartbeats 8000000 in
theorem iCopy_ok (mem:List Int) (b:Int) (sh st:List Int) (b':Int) (sh' st':List Int) (q n m n' m':Nat) (hq:mem.length=q) (hn:sh.length=n) (hm:st.length=m) (hn':sh'.length=n') (hm':st'.length=m') (hb:(q ≤ 1099511627776 ∧ n ≤ 1099511627776 ∧ m ≤ 1099511627776) ∧ n' ≤ 1099511627776 ∧ m' ≤ 1099511627776):BCall Tryd.prog 51 [.rows false (IL mem) q,.agg [.int .i64 b,.rows false (IL sh) n,.rows false (IL st) m],.agg [.int .i64 b',.rows false (IL sh') n',.rows false (IL st') m']] [] (TB (twoB mem b sh st b' sh' st') (putL mem (offs b sh st) (takesL mem (offs b' sh' st')))):=by
  subst hq hn hm hn' hm'
  obtain ⟨⟨hb0,hb1,hb2⟩,hb3,hb4⟩:=hb
  have q0:(mem.length ≤ 1099511627776 ∧ sh.length ≤ 1099511627776 ∧ st.length ≤ 1099511627776) ∧ sh'.length ≤ 1099511627776 ∧ st'.length ≤ 1099511627776:=⟨⟨hb0,hb1,hb2⟩,hb3,hb4⟩
  refine A4z (pins:=[]) (pin:=0) l51_eq rfl rfl rfl ?_
  cases h:twoB mem b sh st b' sh' st' with
  | false =>
    (repeat' (first
 | (first|refine Akz ?_|refine Afz ?_)
 | ((first|refine Alz ?_|refine Asz (mid:=l51r3a) (post:=l51r3b) A9z (by decide) ?_|refine Aez ?_|refine Agz ?_|refine Ahz ?_);simp (disch:=omega) only [push_cast,seval,l51r0,l51r1,l51r2,l51r3a,l51r3b,l51r3,h])
 | ((first|refine Aaz ?_ ?_|refine Adz ?_ ?_|refine Acz ?_ ?_)<;>intro h<;>(try simp only [h])<;>(try simp only [bitvec_to_nat] at h)<;>(try simp only [h])<;>(first|(exfalso;omega)|(exfalso;simp_all;done)|(simp (disch:=omega) only [push_cast,seval,h])|skip))
 | ((first|refine callD_of false ?_|refine Ajz false ?_);simp (disch:=omega) only [push_cast,seval,h])
 | ((first|((first|refine call0D (BCall.ofP (C7z _ _ _ _ _ _ _ _ _ _ _ _ ?_ ?_ ?_ ?_ ?_ ?_)) ?_|refine qcall0D (BCall.ofP (C7z _ _ _ _ _ _ _ _ _ _ _ _ ?_ ?_ ?_ ?_ ?_ ?_)) ⟨_,_,rfl,rfl⟩ ?_);(iterate 6 (exact sd));rintro _ _ ⟨rfl,rfl⟩)|((first|refine call0D (loaded_ok _ _ _ _ _ _ _ ?_ ?_ ?_ ?_) ?_|refine qcall0D (loaded_ok _ _ _ _ _ _ _ ?_ ?_ ?_ ?_) ⟨_,_,rfl,rfl⟩ ?_);(iterate 4 (exact sd));rintro _ _ ⟨rfl,rfl⟩)|((first|refine call0D (stored_ok _ _ _ _ _ _ _ _ _ ?_ ?_ ?_ ?_ ?_) ?_|refine qcall0D (stored_ok _ _ _ _ _ _ _ _ _ ?_ ?_ ?_ ?_ ?_) ⟨_,_,rfl,rfl⟩ ?_);(iterate 5 (exact sd));rintro _ _ ⟨rfl,rfl⟩))<;>(try simp (disch:=omega) only [push_cast,seval,h]))
 | (refine Aiz ⟨.inr rfl,[16000],[(16000,1)],_,by decide,rfl,?_⟩;(try simp (disch:=omega) only [push_cast,seval,↓Anz,↓Amz,↓List.map_cons,↓List.map_nil,h]))))
    all_goals simp [TB,MVL]
  | true =>
    obtain ⟨h1,h2,h3⟩:=two_facts h
    subst h3
    obtain ⟨f1,f2,f3,f4,f5,f6⟩:=Cpz h1
    obtain ⟨g1,g2,_,_,_,_⟩:=Cpz h2
    have o1:=Blz b sh st
    have o2:=Blz b' sh st'
    have c1:=(Dpz.1 h1).2.2
    have c2:=(Dpz.1 h2).2.2
    have q1:okV b sh st ∧ st.length=sh.length:=⟨f1,f2⟩
    have q2:okV b' sh st' ∧ st'.length=sh.length:=⟨g1,g2⟩
    have hp:(pr sh).toNat ≤ 60:=by omega
    have hpc:(((pr sh).toNat:Nat):Int)=pr sh:=by omega
    have hsp:∃ c:Nat,pr sh=(c:Int) ∧ c ≤ 60:=⟨(pr sh).toNat,by omega,by omega⟩
    obtain ⟨c,hc,hc60⟩:=hsp
    have hlL:(offs b sh st).length=c:=by omega
    have hlL':(offs b' sh st').length=c:=by omega
    generalize hL:offs b sh st=L at *
    generalize hL':offs b' sh st'=L' at *
    have tl:=Dvz mem L'
    have k1:seeB mem b sh st=true ∧ (L'.length:Int)=pr sh:=⟨h1,by omega⟩
    have k2:(c=c ∧ c=c ∧ mem.length ≤ 60 ∧ c ≤ 60) ∧ (∀ x ∈ L,0 ≤ x ∧ x ≤ (mem.length:Int) - 1) ∧ ∀ x ∈ L',0 ≤ x ∧ x ≤ (mem.length:Int) - 1:=⟨⟨rfl,rfl,f6,hc60⟩,c1,c2⟩
    have k3:(c=c ∧ mem.length ≤ 60 ∧ c ≤ 60) ∧ (∀ x ∈ L,0 ≤ x ∧ x ≤ (mem.length:Int) - 1) ∧ ∀ x ∈ L',0 ≤ x ∧ x ≤ (mem.length:Int) - 1:=⟨⟨rfl,f6,hc60⟩,c1,c2⟩
    have k4:(c=c ∧ mem.length ≤ 60 ∧ c ≤ 60) ∧ (∀ x ∈ L.reverse,0 ≤ x ∧ x ≤ (mem.length:Int) - 1) ∧ ∀ x ∈ L'.reverse,0 ≤ x ∧ x ≤ (mem.length:Int) - 1:=⟨⟨rfl,f6,hc60⟩,fun x hx=>c1 x (List.mem_reverse.1 hx),fun x hx=>c2 x (List.mem_reverse.1 hx)⟩
    have k5:c ≤ 1000:=by omega
    have lrL:L.reverse.length=c:=by rw [List.length_reverse];exact hlL
    have lrL':L'.reverse.length=c:=by rw [List.length_reverse];exact hlL'
    (repeat' (first
 | (first|refine Akz ?_|refine Afz ?_)
 | ((first|refine Alz ?_|refine Asz (mid:=l51r3a) (post:=l51r3b) A9z (by decide) ?_|refine Aez ?_|refine Agz ?_|refine Ahz ?_);simp (disch:=omega) only [push_cast,seval,l51r0,l51r1,l51r2,l51r3a,l51r3b,l51r3,h,hL,hL',hc,hlL,hlL',tl,lrL,lrL',List.length_reverse,Bmz,Int.toNat_natCast])
 | ((first|refine Aaz ?_ ?_|refine Adz ?_ ?_|refine Acz ?_ ?_)<;>intro h<;>(try simp only [h])<;>(try simp only [bitvec_to_nat] at h)<;>(try simp only [h])<;>(first|(exfalso;omega)|(exfalso;simp_all;done)|(simp (disch:=omega) only [push_cast,seval,h,hL,hL',hc,hlL,hlL',tl,lrL,lrL',List.length_reverse,Bmz,Int.toNat_natCast])|skip))
 | ((first|refine callD_of false ?_|refine Ajz false ?_);simp (disch:=omega) only [push_cast,seval,h,hL,hL',hc,hlL,hlL',tl,lrL,lrL',List.length_reverse,Bmz,Int.toNat_natCast])
 | ((first|((first|refine call0D (BCall.ofP (C7z _ _ _ _ _ _ _ _ _ _ _ _ ?_ ?_ ?_ ?_ ?_ ?_)) ?_|refine qcall0D (BCall.ofP (C7z _ _ _ _ _ _ _ _ _ _ _ _ ?_ ?_ ?_ ?_ ?_ ?_)) ⟨_,_,rfl,rfl⟩ ?_);(iterate 6 (exact sd));rintro _ _ ⟨rfl,rfl⟩)|((first|refine call0D (loaded_ok _ _ _ _ _ _ _ ?_ ?_ ?_ ?_) ?_|refine qcall0D (loaded_ok _ _ _ _ _ _ _ ?_ ?_ ?_ ?_) ⟨_,_,rfl,rfl⟩ ?_);(iterate 4 (exact sd));rintro _ _ ⟨rfl,rfl⟩)|((first|refine call0D (stored_ok _ _ _ _ _ _ _ _ _ ?_ ?_ ?_ ?_ ?_) ?_|refine qcall0D (stored_ok _ _ _ _ _ _ _ _ _ ?_ ?_ ?_ ?_ ?_) ⟨_,_,rfl,rfl⟩ ?_);(iterate 5 (exact sd));rintro _ _ ⟨rfl,rfl⟩))<;>(try simp (disch:=omega) only [push_cast,seval,h,hL,hL',hc,hlL,hlL',tl,lrL,lrL',List.length_reverse,Bmz,Int.toNat_natCast]))
 | (refine Aiz ⟨.inr rfl,[288],[],_,by decide,rfl,?_⟩;(try simp (disch:=omega) only [push_cast,seval,↓Anz,↓Amz,↓List.map_cons,↓List.map_nil,h,hL,hL',hc,hlL,hlL',tl,lrL,lrL',List.length_reverse,Bmz,Int.toNat_natCast]))))
    all_goals simp [TB,MVL]


/-- The cells with different values,of memories with as many cells. -/
def chB (a b:List Int):Bool:=vMem a && vMem b && decide (a.length=b.length)


def sumV (mem:List Int) (b:Int) (sh st:List Int):Int:=if seeB mem b sh st=true then sumT (takesL mem (offs b sh st)) (offs b sh st).length else -1
end Go.Proofs.YtahdlohpncjdbaaDoor
set_option linter.unusedSimpArgs false
set_option linter.unusedVariables false
set_option maxRecDepth 4000
set_option maxHeartbeats 4000000
namespace Go.Proofs.YtahdlohpncjdbaaDoor
open VwM Vw Go
set_option linter.unusedSectionVars false
variable [SentA]

end Go.Proofs.YtahdlohpncjdbaaDoor
set_option linter.unusedSimpArgs false
set_option linter.unusedVariables false
set_option maxRecDepth 4000
set_option maxHeartbeats 4000000
namespace Go.Proofs.YtahdlohpncjdbaaDoor
open VwM Vw Go
set_option linter.unusedSectionVars false
variable [SentA]

/-- A value can be stored everywhere. -/
def filB (mem:List Int) (b:Int) (sh st:List Int) (x:Int):Bool:=seeB mem b sh st && (decide (0 ≤ x) && decide (x ≤ 255))
def filL (mem:List Int) (b:Int) (sh st:List Int) (x:Int):List Int:=putL mem (offs b sh st) (rpt [x] (pr sh).toNat)
end Go.Proofs.YtahdlohpncjdbaaDoor
set_option linter.unusedSimpArgs false
set_option linter.unusedVariables false
set_option maxRecDepth 4000
set_option maxHeartbeats 4000000
namespace Go.Proofs.YtahdlohpncjdbaaDoor
open VwM Vw Go
set_option linter.unusedSectionVars false
variable [SentA]

open Go.RowKit Go.Extern.Stop Go.Stop Go.Extern in
open Go.RowKit Go.Extern.Stop Go.Stop Go.Extern in
theorem isTypeOf1 (v:Value) (w:World):(Extern.ReflectliteType.typeOf #[.iface 137 v]).run Tryd.prog w=.ok (.iface 110 (.agg #[.pointer (some ⟨1,137,none⟩)])) w:=by kernel_rfl
open Go.RowKit Go.Extern.Stop Go.Stop Go.Extern Go.Extern.ReflectliteType in
theorem isComparable (w : World) : ((Extern.ReflectliteType.method fun t => do Extern.Rtype.noPackHeld "Comparable" t; pure (.bool (← typeInfo t).comparable)) #[.agg #[.pointer (some ⟨1,137,none⟩)]]).run Tryd.prog w = .ok (.bool true) w := by kernel_rfl
open Go.RowKit Go.Extern.Stop Go.Stop Go.Extern Go.Extern.ReflectliteType in
theorem Iwz (w:World):Sem.run Tryd.prog (callFunc 127 #[.agg #[.pointer (some ⟨1,137,none⟩)]]) w=Result.ok (Next.value (Value.bool true)) w:=by
  have h := @run_callFunc_extern Tryd.prog 127 _ (Extern.ReflectliteType.method fun t => do Extern.Rtype.noPackHeld "Comparable" t; pure (.bool (← typeInfo t).comparable)) Tryd.func127 (by kernel_rfl) (by kernel_rfl) (by kernel_rfl) (by kernel_rfl)
  rw [h,isComparable]
  rfl
theorem Fxz (v : Value) (w : World) : (Go.method 273 110 v "Comparable").run Tryd.prog w = .ok (127,v) w := by kernel_rfl
theorem isComp:(Tryd.prog.info? 137).map (·.comparable)=some true:=by kernel_rfl
theorem isSize:(Tryd.prog.info? 161).map (·.size)=some 1:=by kernel_rfl
open Go.RowKit Go.Extern.Stop Go.Stop Go.Extern in
set_option maxHeartbeats 16000000 in
theorem is_same (a:Addr) (w:World) :
    Calls Tryd.prog 36 #[.iface 137 (.pointer (some a)),.iface 137 (.pointer (some a))] w fun e w'=>e=.returned (.bool true) ∧ w'=w:=by
  obtain ⟨i,hi,hcmp⟩:=Option.map_eq_some_iff.1 isComp
  obtain ⟨j,hj,hjs⟩:=Option.map_eq_some_iff.1 isSize
  have h8:=@run_callFunc_extern Tryd.prog 67 _ Extern.ReflectliteType.typeOf Tryd.func67 (by kernel_rfl) (by kernel_rfl) (by kernel_rfl) (by kernel_rfl)
  have h32:=Iwz
  have tT:=isTypeOf1
  have mR:=Fxz
  have heq:=run_eql_iface_ptr_same (P:=Tryd.prog) w a Tryd.underlying59 Tryd.underlying137 hi hcmp hj
  go_enter Tryd.func36,Tryd.ntmps36
  go_wp2
  all_goals (try (refine wp_loop_rounds 1 ?_;rw [rounds_succ];go_wp2))
  all_goals (try (go_ret;exact ⟨rfl,rfl⟩))
open Go.RowKit Go.Extern.Stop Go.Stop Go.Extern in
theorem is_nil (b:Addr) (w:World) :
    Calls Tryd.prog 36 #[.nilIface,.iface 137 (.pointer (some b))] w fun e w'=>e=.returned (.bool false) ∧ w'=w:=by
  have hn:=run_eql_iface_nil_left (P:=Tryd.prog) w 137 (.pointer (some b)) Tryd.underlying59
  go_enter Tryd.func36,Tryd.ntmps36
  go_wp2
  go_ret
  exact ⟨rfl,rfl⟩

end Go.Proofs.YtahdlohpncjdbaaDoor
set_option linter.unusedSimpArgs false
set_option linter.unusedVariables false
set_option maxRecDepth 4000
set_option maxHeartbeats 4000000
namespace Go.Proofs.YtahdlohpncjdbaaDoor
open VwM Vw Go
set_option linter.unusedSectionVars false
variable [SentA]

theorem hang_false {d id kid n:Nat} {k:Int} {ks:List Int} {σ:List (Nat × AV)} {H:List (Nat × List AV)} {K:S → Prop} (h0:hk H id=some [.own kid n 1]) (h1:hk H kid=some (IL ks)) (hf:hk H 224=none ∧ hk H 304=none)
    (hK:K (mkS ((d,.ref 304 1 0) :: σ) ((304,[.val (.slice none 0 0)]) :: H))):callE Tryd.prog 0 69 [.ref id 1 0,.int .i64 k,.bool false] (some d) K σ H:=by
  obtain ⟨hf1,hf2⟩:=hf
  intro args ha
  refine B2z ?_
  rw [ha]
  refine Htz l69_eq rfl ?_
  show awpK Tryd.prog 0 _ _ (mkS [(0,.ref id 1 0),(1,.int .i64 k),(2,.bool false)] H)
  repeat' (first
    | (refine awpK_seq ?_)
    | (refine awpK_reg rfl ?_;simp (disch:=omega) only [push_cast,seval,l69r0,l69r1,l69r2,l69r3,h0,h1,hf1,hf2])
    | (refine awpK_cond false rfl (fun h=>by cases h) (fun _=>?_))
    | (refine awpK_skip ?_;simp (disch:=omega) only [push_cast,seval])
    | (refine awpK_ret ⟨.inr rfl,_,rfl,?_⟩))
  all_goals (show K ⟨upd (lk σ) d (.ref 304 1 0),hk ((304,[.val (.slice none 0 0)]) :: H)⟩;rw [upd_lk];exact hK)
theorem hang_true {d id kid n:Nat} {k:Int} {ks:List Int} {σ:List (Nat × AV)} {H:List (Nat × List AV)} {K:S → Prop} (h0:hk H id=some [.own kid n 1]) (h1:hk H kid=some (IL ks)) (hn:ks.length=n) (hb:n ≤ 1000) (hi:id ≠ kid) (hf:hk H 224=none ∧ hk H 304=none)
    (hK:K (mkS ((d,.ref 304 1 0) :: σ) ((304,[.val (.slice none 0 0)]) :: (id,[.own kid (n + 1) 1]) :: (kid,IL ks ++ [.int .i64 k]) :: (224,[.int .i64 k]) :: H))):callE Tryd.prog 0 69 [.ref id 1 0,.int .i64 k,.bool true] (some d) K σ H:=by
  obtain ⟨hf1,hf2⟩:=hf
  have e1:(id=224)=False:=propext ⟨fun e=>by rw [e,hf1] at h0;exact (by cases h0),False.elim⟩
  have e2:(kid=224)=False:=propext ⟨fun e=>by rw [e,hf1] at h1;exact (by cases h1),False.elim⟩
  have e3:(id=kid)=False:=propext ⟨fun e=>hi e,False.elim⟩
  have e4:(304=id)=False:=propext ⟨fun e=>by rw [← e,hf2] at h0;exact (by cases h0),False.elim⟩
  have e5:(304=kid)=False:=propext ⟨fun e=>by rw [← e,hf2] at h1;exact (by cases h1),False.elim⟩
  have hil:(IL ks).length=n:=by unfold IL;simpa using hn
  intro args ha
  refine B2z ?_
  rw [ha]
  refine Htz l69_eq rfl ?_
  show awpK Tryd.prog 0 _ _ (mkS [(0,.ref id 1 0),(1,.int .i64 k),(2,.bool true)] H)
  repeat' (first
    | (refine awpK_seq ?_)
    | (refine awpK_reg rfl ?_;simp (disch:=omega) only [push_cast,seval,l69r0,l69r1,l69r2,l69r3,h0,h1,hf1,hf2,e1,e2,e3,e4,e5,hil])
    | (refine awpK_cond true rfl (fun _=>?_) (fun h=>by cases h))
    | (refine awpK_skip ?_;simp (disch:=omega) only [push_cast,seval])
    | (refine awpK_ret ⟨.inr rfl,_,rfl,?_⟩))
  all_goals (show K ⟨upd (lk σ) d (.ref 304 1 0),_⟩;rw [upd_lk];exact hK)

end Go.Proofs.YtahdlohpncjdbaaDoor
set_option linter.unusedSimpArgs false
set_option linter.unusedVariables false
set_option maxRecDepth 4000
set_option maxHeartbeats 4000000
namespace Go.Proofs.YtahdlohpncjdbaaDoor
open VwM Vw Go
set_option linter.unusedSectionVars false
variable [SentA]

theorem SubW.rfl' {pin:Nat} {s:S}:SubW pin s s:=fun E M x w _ h=>⟨M,h⟩
theorem Ilz {P:Program} {pin f:Nat} {avs:List AV} {dst:Option Nat} {K:S → Prop} {σ:List (Nat × AV)} {H:List (Nat × List AV)} (h:callE P pin f avs dst (fun s'=>∃ s1,SubW pin s' s1 ∧ K s1) σ H):callE P pin f avs dst K σ H:=fun args ha E M a w hp hd hst=>by
  refine (h args ha E M a w hp hd hst).mono fun e w' ⟨M',s',v,⟨s1,hsub,hk⟩,he,hst'⟩=>?_
  obtain ⟨M'',h1⟩:=hsub E M' _ w' hp hst'
  exact ⟨M'',s1,v,hk,he,h1⟩
theorem adHL_id (t id sz:Nat):∀ H:List (Nat × List AV),hk H t=none → adHL [t] id sz H=H
  | [],_=>rfl
  | p :: r,h=>by
    simp only [hk] at h
    split at h
    · cases h
    · rename_i hne
      simp only [adHL,List.map_cons]
      have ih:=adHL_id t id sz r h
      simp only [adHL] at ih
      rw [ih]
      have:([t].contains p.1)=false:=by simp;exact fun e=>hne e.symm
      rw [this];rfl


theorem hang_no {d id kid n:Nat} {k:Int} {ks:List Int} {σ:List (Nat × AV)} {H:List (Nat × List AV)} {K:S → Prop} (h0:hk H id=some [.own kid n 1]) (h1:hk H kid=some (IL ks)) (hf:hk H 224=none ∧ hk H 304=none ∧ hk H 16000=none)
    (hK:K (mkS ((d,.ref 304 1 0) :: σ) ((16000,[]) :: (304,[.own 16000 0 1]) :: H))):callE Tryd.prog 0 69 [.ref id 1 0,.int .i64 k,.bool false] (some d) K σ H:=by
  refine Ilz (hang_false h0 h1 ⟨hf.1,hf.2.1⟩ ⟨_,?_,hK⟩)
  refine SubW.adoptH [304] 16000 1 (by simp [hk,hf.2.2]) ?_
  have e:adHL [304] 16000 1 ((304,[AV.val (.slice none 0 0)]) :: H)=(304,[.own 16000 0 1]) :: H:=by
    have:=adHL_id 304 16000 1 H hf.2.1
    simp only [adHL,List.map_cons] at this ⊢
    rw [this];rfl
  rw [e]
  exact SubW.rfl'
theorem hang_yes {d id kid n:Nat} {k:Int} {ks:List Int} {σ:List (Nat × AV)} {H:List (Nat × List AV)} {K:S → Prop} (h0:hk H id=some [.own kid n 1]) (h1:hk H kid=some (IL ks)) (hn:ks.length=n) (hb:n ≤ 1000) (hi:id ≠ kid) (hf:hk H 224=none ∧ hk H 304=none ∧ hk H 16000=none)
    (hK:K (mkS ((d,.ref 304 1 0) :: σ) ((16000,[]) :: (304,[.own 16000 0 1]) :: (id,[.own kid (n + 1) 1]) :: (kid,IL (ks ++ [k])) :: (224,[.int .i64 k]) :: H))):callE Tryd.prog 0 69 [.ref id 1 0,.int .i64 k,.bool true] (some d) K σ H:=by
  have n1:id ≠ 304:=fun e=>by rw [e,hf.2.1] at h0;cases h0
  have n2:kid ≠ 304:=fun e=>by rw [e,hf.2.1] at h1;cases h1
  have n3:id ≠ 16000:=fun e=>by rw [e,hf.2.2] at h0;cases h0
  have n4:kid ≠ 16000:=fun e=>by rw [e,hf.2.2] at h1;cases h1
  refine Ilz (hang_true h0 h1 hn hb hi ⟨hf.1,hf.2.1⟩ ⟨_,?_,hK⟩)
  refine SubW.adoptH [304] 16000 1 (by simp [hk,hf.2.2,Ne.symm n3,Ne.symm n4]) ?_
  have e:adHL [304] 16000 1 ((304,[AV.val (.slice none 0 0)]) :: (id,[.own kid (n + 1) 1]) :: (kid,IL ks ++ [.int .i64 k]) :: (224,[.int .i64 k]) :: H)=(304,[.own 16000 0 1]) :: (id,[.own kid (n + 1) 1]) :: (kid,IL (ks ++ [k])) :: (224,[.int .i64 k]) :: H:=by
    have hx:=adHL_id 304 16000 1 ((id,[.own kid (n + 1) 1]) :: (kid,IL ks ++ [.int .i64 k]) :: (224,[.int .i64 k]) :: H) (by simp [hk,hf.2.1,Ne.symm n1,Ne.symm n2])
    simp only [adHL,List.map_cons] at hx ⊢
    rw [hx]
    unfold IL
    simp [adA]
  rw [e]
  exact SubW.rfl'


def heldV [SentA] (n:Nat):Value:=if 0 < n then .iface 137 (.pointer (some SentA.a)) else .nilIface
theorem Ddz {ρ:Nat → Option Nat} {Z:Nat → Option (List AV)} {b0:Bool} {φ:Bool → Option Bool} {m:Nat} (n:Nat):AV.ren ρ Z b0 φ (m + 1) (.val (heldV n))=.val (heldV n):=by unfold heldV;split<;>rfl
theorem Dgz (σ:List (Nat × AV)) (H:List (Nat × List AV)):(mkS σ H).ev (.global 0)=.prow false [.val (.iface 137 (.pointer (some SentA.a)))] 0:=rfl
theorem H9z:ofVal Value.nilIface=.val .nilIface:=rfl
theorem fzIf (H:Nat → Option (List AV)) (t:TypeId) (v:Value):AV.fz H 5 (.val (.iface t v))=.val (.iface t v):=rfl
theorem fzNi (H:Nat → Option (List AV)):AV.fz H 5 (.val .nilIface)=.val .nilIface:=rfl
theorem held_ok (ks:List Int) (n:Nat) (hn:ks.length=n) (hb:n ≤ 1000):PCall Tryd.prog 38 [.prow false [.rows false (IL ks) n] 0] (fun r=>r=.val (heldV n)):=by
  subst hn
  refine Awz l38_eq rfl ?_
  unfold heldV
  by_cases h:0 < ks.length
  · rw [if_pos h]
    (repeat' (first
 | (first|refine Akz ?_|refine Afz ?_)
 | ((first|refine Alz ?_|refine Aez ?_|refine Agz ?_|refine Ahz ?_);simp (disch:=omega) only [push_cast,seval,l38r0,l38r1,l38r2,l38r3,Dgz,H9z,fzIf,fzNi])
 | ((first|refine Aaz ?_ ?_|refine Adz ?_ ?_|refine Acz ?_ ?_)<;>intro h<;>(try simp only [h])<;>(try simp only [bitvec_to_nat] at h)<;>(try simp only [h])<;>(first|(exfalso;omega)|(exfalso;simp_all;done)|(simp (disch:=omega) only [push_cast,seval,Dgz,H9z,fzIf,fzNi])|skip))
 | (refine Aiz ⟨.inr rfl,_,rfl,?_⟩;(try simp (disch:=omega) only [push_cast,seval,Dgz,H9z,fzIf,fzNi]))))
  · rw [if_neg h]
    (repeat' (first
 | (first|refine Akz ?_|refine Afz ?_)
 | ((first|refine Alz ?_|refine Aez ?_|refine Agz ?_|refine Ahz ?_);simp (disch:=omega) only [push_cast,seval,l38r0,l38r1,l38r2,l38r3,Dgz,H9z,fzIf,fzNi])
 | ((first|refine Aaz ?_ ?_|refine Adz ?_ ?_|refine Acz ?_ ?_)<;>intro h<;>(try simp only [h])<;>(try simp only [bitvec_to_nat] at h)<;>(try simp only [h])<;>(first|(exfalso;omega)|(exfalso;simp_all;done)|(simp (disch:=omega) only [push_cast,seval,Dgz,H9z,fzIf,fzNi])|skip))
 | (refine Aiz ⟨.inr rfl,_,rfl,?_⟩;(try simp (disch:=omega) only [push_cast,seval,Dgz,H9z,fzIf,fzNi]))))

end Go.Proofs.YtahdlohpncjdbaaDoor
