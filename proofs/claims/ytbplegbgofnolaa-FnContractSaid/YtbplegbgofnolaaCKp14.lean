import Derived.Test.YtbplegbgofnolaaCKp13
import Derived.Test.YtbplegbgofnolaaCM1
import Derived.Test.YtbplegbgofnolaaCW3
set_option linter.unusedSimpArgs false
set_option linter.unusedVariables false
set_option maxRecDepth 4000
set_option maxHeartbeats 4000000
namespace Go.Proofs.Ytbplegbgofnolaa
open VwM Vw Go

theorem prodF_b {ts:List Tn} {ls:List (List Int)} {out:List Int} (h:prodF ts ls out):ts.length ≤ 1099511627776 ∧ ls.length ≤ 1099511627776 ∧ (∀ t ∈ ts,t.1.length ≤ 1099511627776 ∧ t.2.length ≤ 1099511627776) ∧ ∀ l ∈ ls,l.length ≤ 1099511627776:=by
  obtain ⟨h1,h2,h3,h4⟩:=h
  exact ⟨by omega,by omega,fun t ht=>by have:=h2 t ht;omega,fun l hl=>by have:=h3 l hl;omega⟩
theorem prodF_c {ts:List Tn} {ls:List (List Int)} {out:List Int} (h:prodF ts ls out):ts.length ≤ 1048576 ∧ ls.length ≤ 1048576 ∧ out.length ≤ 1048576 ∧ (∀ t ∈ ts,t.1.length ≤ 1048576 ∧ t.2.length ≤ 1048576) ∧ ∀ l ∈ ls,l.length ≤ 1048576:=by
  obtain ⟨h1,h2,h3,h4⟩:=h
  exact ⟨by omega,by omega,by omega,fun t ht=>by have:=h2 t ht;omega,fun l hl=>by have:=h3 l hl;omega⟩


set_option maxHeartbeats 8000000 in
theorem iExO_ok (ts:List Tn) (ls:List (List Int)) (n m:Nat) (hn:ts.length=n) (hm:ls.length=m) (hb:n ≤ 1099511627776 ∧ m ≤ 1099511627776 ∧ (∀ t ∈ ts,t.1.length ≤ 1099511627776 ∧ t.2.length ≤ 1099511627776) ∧ ∀ l ∈ ls,l.length ≤ 1099511627776) :
    BCall Try.prog 22 [.rows false (TL false ts) n,.rows false (LL false ls) m] [] (OX (exO ts ls)):=by
  subst hn hm
  have q0:=hb
  obtain ⟨hb0,hb1,hb2,hb3⟩:=hb
  refine A3z (pins:=[]) (pin:=0) l22_eq rfl rfl rfl ?_
  have hxp:=exP_nil ts ls
  cases hx:exO ts ls with
  | none =>
    rw [hx] at hxp
    (repeat' (first
 | (first|refine Anz ?_|refine Agz ?_)
 | ((first|refine Aoz ?_|refine Afz ?_|refine Ahz ?_|refine Aiz ?_);simp (disch:=omega) only [push_cast,seval,l22r0,l22r1,l22r2,l22r3,l22r4,hxp,set5,tak5,Bsz,Option.isSome_none,Option.getD_none,Abz,Aaz])
 | ((first|refine Acz ?_ ?_|refine Aez ?_ ?_|refine Adz ?_ ?_)<;>intro h<;>(try simp only [h])<;>(try simp only [bitvec_to_nat] at h)<;>(try simp only [h])<;>(first|(exfalso;omega)|(exfalso;simp_all;done)|(simp (disch:=omega) only [push_cast,seval,hxp,set5,tak5,Bsz,Option.isSome_none,Option.getD_none,Abz,Aaz])|skip))
 | ((first|refine Aqz false ?_|refine qcallD_of false ?_);simp (disch:=omega) only [push_cast,seval,hxp,set5,tak5,Bsz,Option.isSome_none,Option.getD_none,Abz,Aaz])
 | ((first|(refine call0D (BCall.ofP (Buz _ _ _ _ _ _ ?_ ?_ ?_ ?_)) ?_;(iterate 4 (exact sd));rintro _ _ ⟨⟨g,hg5,rfl⟩,rfl⟩;(try simp only [hxp,Option.getD_none,Option.getD_some] at hg5))|(refine call0D (BCall.ofP (extentsOfN_ok _ _ _ _ ?_ ?_ ?_)) ?_;(iterate 3 (exact sd));rintro _ _ ⟨⟨g,hg5,rfl⟩,rfl⟩;(try simp only [hxp,Option.getD_none,Option.getD_some] at hg5))|((first|refine call0D (clone_ok _ _ ?_ ?_) ?_|refine qcall0D (clone_ok _ _ ?_ ?_) ⟨_,_,rfl,rfl⟩ ?_);(iterate 2 (exact sd));rintro _ _ ⟨rfl,rfl⟩))<;>(try simp (disch:=omega) only [push_cast,seval,hxp,set5,tak5,Bsz,Option.isSome_none,Option.getD_none,Abz,Aaz]))
 | (refine Akz ⟨.inr rfl,[16000],[(16000,1)],_,by decide,rfl,?_⟩;(try simp (disch:=omega) only [push_cast,seval,↓Alz,↓Ajz,↓List.map_cons,↓List.map_nil,hxp,set5,tak5,Bsz,Option.isSome_none,Option.getD_none,Abz,Aaz]))))
    all_goals (try exact ⟨rfl,rfl⟩)
  | some e =>
    rw [hx] at hxp
    obtain ⟨h5,_⟩:=exO_facts hx
    (repeat' (first
 | (first|refine Anz ?_|refine Agz ?_)
 | ((first|refine Aoz ?_|refine Afz ?_|refine Ahz ?_|refine Aiz ?_);simp (disch:=omega) only [push_cast,seval,l22r0,l22r1,l22r2,l22r3,l22r4,hxp,h5,set5,tak5,Bsz,Option.isSome_some,Option.getD_some,Abz,Aaz])
 | ((first|refine Acz ?_ ?_|refine Aez ?_ ?_|refine Adz ?_ ?_)<;>intro h<;>(try simp only [h])<;>(try simp only [bitvec_to_nat] at h)<;>(try simp only [h])<;>(first|(exfalso;omega)|(exfalso;simp_all;done)|(simp (disch:=omega) only [push_cast,seval,hxp,h5,set5,tak5,Bsz,Option.isSome_some,Option.getD_some,Abz,Aaz])|skip))
 | ((first|refine Aqz false ?_|refine qcallD_of false ?_);simp (disch:=omega) only [push_cast,seval,hxp,h5,set5,tak5,Bsz,Option.isSome_some,Option.getD_some,Abz,Aaz])
 | ((first|(refine call0D (BCall.ofP (Buz _ _ _ _ _ _ ?_ ?_ ?_ ?_)) ?_;(iterate 4 (exact sd));rintro _ _ ⟨⟨g,hg5,rfl⟩,rfl⟩;(try simp only [hxp,Option.getD_none,Option.getD_some] at hg5))|(refine call0D (BCall.ofP (extentsOfN_ok _ _ _ _ ?_ ?_ ?_)) ?_;(iterate 3 (exact sd));rintro _ _ ⟨⟨g,hg5,rfl⟩,rfl⟩;(try simp only [hxp,Option.getD_none,Option.getD_some] at hg5))|((first|refine call0D (clone_ok _ _ ?_ ?_) ?_|refine qcall0D (clone_ok _ _ ?_ ?_) ⟨_,_,rfl,rfl⟩ ?_);(iterate 2 (exact sd));rintro _ _ ⟨rfl,rfl⟩))<;>(try simp (disch:=omega) only [push_cast,seval,hxp,h5,set5,tak5,Bsz,Option.isSome_some,Option.getD_some,Abz,Aaz]))
 | (refine Akz ⟨.inr rfl,[272],[],_,by decide,rfl,?_⟩;(try simp (disch:=omega) only [push_cast,seval,↓Alz,↓Ajz,↓List.map_cons,↓List.map_nil,hxp,h5,set5,tak5,Bsz,Option.isSome_some,Option.getD_some,Abz,Aaz]))))
    all_goals (try exact ⟨by simp [h5],rfl⟩)


end Go.Proofs.Ytbplegbgofnolaa
