/- Texts of this verifier. -/
import Derived.Test.YtfccepgibbdfaaaDoorCB2
import Derived.Test.YtfccepgibbdfaaaDoorCM1
import Derived.Test.YtfccepgibbdfaaaDoorCW3
set_option maxHeartbeats 4000000
set_option linter.unusedSimpArgs false
set_option linter.unusedSectionVars false
set_option linter.unusedVariables false
set_option maxRecDepth 4000
namespace Go.Proofs.YtfccepgibbdfaaaDoor
open VwM Vw Go
variable [PowA]

/-- A list and whether there is one: nothing without. -/
abbrev TB (v:Bool) (l:List Int):AV → List (List AV) → Prop:=fun r H'=>r=.tup [.own 0 (MVL v l).length 1,.bool v] ∧ H'=[IL (MVL v l)]
theorem MVL_true (l:List Int):MVL true l=l:=rfl
theorem MVL_false (l:List Int):MVL false l=[]:=rfl
theorem two_facts {mem:List Int} {b b':Int} {sh st sh' st':List Int} (h:twoB mem b sh st b' sh' st'=true):seeB mem b sh st=true ∧ seeB mem b' sh' st'=true ∧ sh=sh':=by
  simp only [twoB,Bool.and_eq_true,decide_eq_true_eq] at h
  exact ⟨h.1.1,h.1.2,h.2⟩
set_option maxHeartbeats 8000000 in
theorem Fxz (mem:List Int) (b:Int) (sh st:List Int) (b':Int) (sh' st':List Int) (q n m n' m':Nat) (hq:mem.length=q) (hn:sh.length=n) (hm:st.length=m) (hn':sh'.length=n') (hm':st'.length=m') (hb:(q ≤ 1099511627776 ∧ n ≤ 1099511627776 ∧ m ≤ 1099511627776) ∧ n' ≤ 1099511627776 ∧ m' ≤ 1099511627776):BCall Tryd.prog 61 [.rows false (IL mem) q,.agg [.int .i64 b,.rows false (IL sh) n,.rows false (IL st) m],.agg [.int .i64 b',.rows false (IL sh') n',.rows false (IL st') m']] [] (TB (twoB mem b sh st b' sh' st') (putL mem (offs b sh st) (takesL mem (offs b' sh' st')))):=by
  subst hq hn hm hn' hm'
  obtain ⟨⟨hb0,hb1,hb2⟩,hb3,hb4⟩:=hb
  have q0:(mem.length ≤ 1099511627776 ∧ sh.length ≤ 1099511627776 ∧ st.length ≤ 1099511627776) ∧ sh'.length ≤ 1099511627776 ∧ st'.length ≤ 1099511627776:=⟨⟨hb0,hb1,hb2⟩,hb3,hb4⟩
  refine Axz (pins:=[]) (pin:=0) l61_eq rfl rfl rfl ?_
  cases h:twoB mem b sh st b' sh' st' with
  | false =>
    (repeat' (first
 | (first|refine Ahz ?_|refine Abz ?_)
 | ((first|refine Aiz ?_|refine Afz ?_);simp (disch:=omega) only [push_cast,seval,l61r0,l61r1,l61r2,l61r3a,l61r3b,l61r3,h])
 | ((first|refine Alz false ?_);simp (disch:=omega) only [push_cast,seval,h])
 | ((first|((first|refine Akz (Ajz (Ikz _ _ _ _ _ _ _ _ _ _ _ _ ?_ ?_ ?_ ?_ ?_ ?_)) ?_|refine Agz (Ajz (Ikz _ _ _ _ _ _ _ _ _ _ _ _ ?_ ?_ ?_ ?_ ?_ ?_)) ⟨_,_,rfl,rfl⟩ ?_);(iterate 6 (exact sd));rintro _ _ ⟨rfl,rfl⟩))<;>(try simp (disch:=omega) only [push_cast,seval,h]))
 | (refine Adz ⟨.inr rfl,[16000],[(16000,1)],_,by decide,rfl,?_⟩;(try simp (disch:=omega) only [push_cast,seval,↓Aez,↓Acz,↓List.map_cons,↓List.map_nil,h]))))
    all_goals simp [TB,MVL]
  | true =>
    obtain ⟨h1,h2,h3⟩:=two_facts h
    subst h3
    obtain ⟨f1,f2,f3,f4,f5,f6⟩:=C5z h1
    obtain ⟨g1,g2,_,_,_,_⟩:=C5z h2
    have o1:=Bkz b sh st
    have o2:=Bkz b' sh st'
    have c1:=(Evz.1 h1).2.2
    have c2:=(Evz.1 h2).2.2
    have q1:okV b sh st ∧ st.length=sh.length:=⟨f1,f2⟩
    have q2:okV b' sh st' ∧ st'.length=sh.length:=⟨g1,g2⟩
    have hp:(pr sh).toNat ≤ 60:=by omega
    have hpc:(((pr sh).toNat:Nat):Int)=pr sh:=by omega
    have hsp:∃ c:Nat,pr sh=(c:Int) ∧ c ≤ 60:=⟨(pr sh).toNat,by omega,by omega⟩
    obtain ⟨c,hc,hc60⟩:=hsp
    have hlL:(offs b sh st).length=c:=by omega
    have hlL':(offs b' sh st').length=c:=by omega
    generalize hL:offs b sh st=L at *
    generalize hL':offs b' sh st'=L' at *
    have tl:=Daz mem L'
    have k1:seeB mem b sh st=true ∧ (L'.length:Int)=pr sh:=⟨h1,by omega⟩
    have k2:(c=c ∧ c=c ∧ mem.length ≤ 60 ∧ c ≤ 60) ∧ (∀ x ∈ L,0 ≤ x ∧ x ≤ (mem.length:Int) - 1) ∧ ∀ x ∈ L',0 ≤ x ∧ x ≤ (mem.length:Int) - 1:=⟨⟨rfl,rfl,f6,hc60⟩,c1,c2⟩
    have k3:(c=c ∧ mem.length ≤ 60 ∧ c ≤ 60) ∧ (∀ x ∈ L,0 ≤ x ∧ x ≤ (mem.length:Int) - 1) ∧ ∀ x ∈ L',0 ≤ x ∧ x ≤ (mem.length:Int) - 1:=⟨⟨rfl,f6,hc60⟩,c1,c2⟩
    have k4:(c=c ∧ mem.length ≤ 60 ∧ c ≤ 60) ∧ (∀ x ∈ L.reverse,0 ≤ x ∧ x ≤ (mem.length:Int) - 1) ∧ ∀ x ∈ L'.reverse,0 ≤ x ∧ x ≤ (mem.length:Int) - 1:=⟨⟨rfl,f6,hc60⟩,fun x hx=>c1 x (List.mem_reverse.1 hx),fun x hx=>c2 x (List.mem_reverse.1 hx)⟩
    have k5:c ≤ 1000:=by omega
    have lrL:L.reverse.length=c:=by rw [List.length_reverse];exact hlL
    have lrL':L'.reverse.length=c:=by rw [List.length_reverse];exact hlL'
    (repeat' (first
 | (first|refine Ahz ?_|refine Abz ?_)
 | ((first|refine Aiz ?_|refine Avz (mid:=l61r3a) (post:=l61r3b) Baz (by decide) ?_|refine Afz ?_|refine Aoz ?_);simp (disch:=omega) only [push_cast,seval,l61r0,l61r1,l61r2,l61r3a,l61r3b,l61r3,h,hL,hL',hc,hlL,hlL',tl,lrL,lrL',List.length_reverse,Caz,Int.toNat_natCast])
 | ((first|refine Alz false ?_|refine Atz false ?_);simp (disch:=omega) only [push_cast,seval,h,hL,hL',hc,hlL,hlL',tl,lrL,lrL',List.length_reverse,Caz,Int.toNat_natCast])
 | ((first|((first|refine Akz (Ajz (Ikz _ _ _ _ _ _ _ _ _ _ _ _ ?_ ?_ ?_ ?_ ?_ ?_)) ?_|refine Agz (Ajz (Ikz _ _ _ _ _ _ _ _ _ _ _ _ ?_ ?_ ?_ ?_ ?_ ?_)) ⟨_,_,rfl,rfl⟩ ?_);(iterate 6 (exact sd));rintro _ _ ⟨rfl,rfl⟩)|((first|refine Akz (Fvz _ _ _ _ _ _ _ ?_ ?_ ?_ ?_) ?_|refine Agz (Fvz _ _ _ _ _ _ _ ?_ ?_ ?_ ?_) ⟨_,_,rfl,rfl⟩ ?_);(iterate 4 (exact sd));rintro _ _ ⟨rfl,rfl⟩)|((first|refine Akz (sput_ok _ _ _ _ _ _ _ _ _ ?_ ?_ ?_ ?_ ?_) ?_|refine Agz (sput_ok _ _ _ _ _ _ _ _ _ ?_ ?_ ?_ ?_ ?_) ⟨_,_,rfl,rfl⟩ ?_);(iterate 5 (exact sd));rintro _ _ ⟨rfl,rfl⟩))<;>(try simp (disch:=omega) only [push_cast,seval,h,hL,hL',hc,hlL,hlL',tl,lrL,lrL',List.length_reverse,Caz,Int.toNat_natCast]))
 | (refine Adz ⟨.inr rfl,[288],[],_,by decide,rfl,?_⟩;(try simp (disch:=omega) only [push_cast,seval,↓Aez,↓Acz,↓List.map_cons,↓List.map_nil,h,hL,hL',hc,hlL,hlL',tl,lrL,lrL',List.length_reverse,Caz,Int.toNat_natCast]))))
    all_goals simp [TB,MVL]


theorem F6z {mem L:List Int} (h:∀ x ∈ mem,0 ≤ x ∧ x ≤ 255):∀ x ∈ takesL mem L,0 ≤ x ∧ x ≤ 255:=by
  intro x hx
  unfold takesL at hx
  obtain ⟨i,_,rfl⟩:=List.mem_map.1 hx
  by_cases hl:i.toNat < mem.length
  · exact h _ (Cuz hl)
  · rw [List.getD,List.getElem?_eq_none (Nat.le_of_not_lt hl)]
    exact ⟨Int.le_refl 0,by decide⟩

end Go.Proofs.YtfccepgibbdfaaaDoor
namespace Go.Proofs.YtfccepgibbdfaaaDoor
open VwM Vw Go
variable [PowA]

end Go.Proofs.YtfccepgibbdfaaaDoor
namespace Go.Proofs.YtfccepgibbdfaaaDoor
open VwM Vw Go
variable [PowA]

/-- A value can be stored everywhere. -/
def filB (mem:List Int) (b:Int) (sh st:List Int) (x:Int):Bool:=seeB mem b sh st && (decide (0 ≤ x) && decide (x ≤ 255))
def filL (mem:List Int) (b:Int) (sh st:List Int) (x:Int):List Int:=putL mem (offs b sh st) (rpt [x] (pr sh).toNat)
theorem rpt_at {x:Int} {n k:Nat} (h:k < n):(rpt [x] n).getD k 0=x:=by rw [rpt_one];simp [List.getD,h]


set_option maxHeartbeats 8000000 in
theorem sFill_ok (mem:List Int) (b:Int) (sh st:List Int) (x:Int) (q n m:Nat) (hq:mem.length=q) (hn:sh.length=n) (hm:st.length=m) (hb:q ≤ 1099511627776 ∧ n ≤ 1099511627776 ∧ m ≤ 1099511627776):BCall Tryd.prog 60 [.rows false (IL mem) q,.agg [.int .i64 b,.rows false (IL sh) n,.rows false (IL st) m],.int .i64 x] [] (TB (filB mem b sh st x) (filL mem b sh st x)):=by
  subst hq hn hm
  refine Axz (pins:=[]) (pin:=0) l60_eq rfl rfl rfl ?_
  unfold filB
  cases h1:seeB mem b sh st with
  | false =>
    (repeat' (first
 | (first|refine Ahz ?_|refine Abz ?_)
 | ((first|refine Aiz ?_|refine Afz ?_);simp (disch:=omega) only [push_cast,seval,l60r0,l60r1,l60r2,l60r3,l60r4,l60r5,l60r6,l60r7,l60r8,l60r9,h1])
 | ((first|refine Alz false ?_);simp (disch:=omega) only [push_cast,seval,h1])
 | ((first|((first|refine Akz (Ajz (Ckz _ _ _ _ _ _ _ ?_ ?_ ?_ ?_)) ?_|refine Agz (Ajz (Ckz _ _ _ _ _ _ _ ?_ ?_ ?_ ?_)) ⟨_,_,rfl,rfl⟩ ?_);(iterate 4 (exact sd));rintro _ _ ⟨rfl,rfl⟩))<;>(try simp (disch:=omega) only [push_cast,seval,h1]))
 | (refine Adz ⟨.inr rfl,[16000],[(16000,1)],_,by decide,rfl,?_⟩;(try simp (disch:=omega) only [push_cast,seval,↓Aez,↓Acz,↓List.map_cons,↓List.map_nil,h1]))))
    all_goals simp [TB,MVL]
  | true =>
  obtain ⟨f1,f2,f3,f4,f5,f6⟩:=C5z h1
  by_cases hx:0 ≤ x ∧ x ≤ 255
  · have hx':(decide (0 ≤ x) && decide (x ≤ 255))=true:=by simp [hx]
    have hxa:allI [x] 0 255=true:=by simp [allI,hx]
    obtain ⟨hx1,hx2⟩:=hx
    have hol:=Bkz b sh st
    have hml:mem.length ≤ 1099511627776:=by omega
    have q1:okV b sh st ∧ st.length=sh.length:=⟨f1,f2⟩
    obtain ⟨c,hc⟩:∃ c:Nat,pr sh=(c:Int):=⟨(pr sh).toNat,by omega⟩
    have hcn:(pr sh).toNat=c:=by omega
    have hck:c ≤ 1000:=by omega
    have hrl:(rpt [x] c).length=c:=by rw [Hjz];simp
    have k1:seeB mem b sh st=true ∧ (c:Int)=pr sh:=⟨h1,by omega⟩
    have hpl:=Cnz mem (offs b sh st) (rpt [x] c)
    rw [hx',filL,hcn]
    have hat:=fun k hk=>seeB_at (k:=k) h1 hk
    rw [hcn] at hol
    generalize hL:offs b sh st=L at *
    clear k1
    (repeat' (first
 | (first|refine Ahz ?_|refine Abz ?_)
 | ((first|refine Aiz ?_|refine Afz ?_|refine Aoz ?_);simp (disch:=omega) only [push_cast,seval,l60r0,l60r1,l60r2,l60r3,l60r4,l60r5,l60r6,l60r7,l60r8,l60r9,h1,hx1,hx2,hL])
 | ((first|refine Alz false ?_);simp (disch:=omega) only [push_cast,seval,h1,hx1,hx2,hL])
 | ((first|((first|refine Akz (Ajz (Ckz _ _ _ _ _ _ _ ?_ ?_ ?_ ?_)) ?_|refine Agz (Ajz (Ckz _ _ _ _ _ _ _ ?_ ?_ ?_ ?_)) ⟨_,_,rfl,rfl⟩ ?_);(iterate 4 (exact sd));rintro _ _ ⟨rfl,rfl⟩)|((first|refine Akz (Ajz (Apz _ _ _)) ?_|refine Agz (Ajz (Apz _ _ _)) ⟨_,_,rfl,rfl⟩ ?_);rintro _ _ ⟨rfl,rfl⟩)|((first|refine Akz (B1z _ _ ?_ ?_) ?_|refine Agz (B1z _ _ ?_ ?_) ⟨_,_,rfl,rfl⟩ ?_);(iterate 2 (exact sd));rintro _ _ ⟨rfl,rfl⟩)|((first|refine Akz (Bjz _ _ _ _ _ ?_ ?_ ?_) ?_|refine Agz (Bjz _ _ _ _ _ ?_ ?_ ?_) ⟨_,_,rfl,rfl⟩ ?_);(iterate 3 (exact sd));rintro _ _ ⟨rfl,rfl⟩))<;>(try simp (disch:=omega) only [push_cast,seval,h1,hx1,hx2,hL]))
 | (refine Adz ⟨.inr rfl,[336],[],_,by decide,rfl,?_⟩;(try simp (disch:=omega) only [push_cast,seval,↓Aez,↓Acz,↓List.map_cons,↓List.map_nil,h1,hx1,hx2,hL]))))
    refine Bez (fun k:Nat=>mkS [(2,.int .i64 x),(8,.own 336 mem.length 1),(9,.own 368 L.length 1),(10,.int .i64 k)] [(336,IL (putK mem L (rpt [x] c) k)),(368,IL L)])
      (fun k=>k ≤ L.length) (fun k=>L.length - k) 0 (Nat.zero_le _) ?_ ?_
    · have e0:putK mem L (rpt [x] c) 0=mem:=rfl
      (refine Sub.of_lists ?_ ?_ ?_ ?_ ?_<;>simp [Vw.mkS,Vw.lk,Vw.hk,AV.inn,innL,Arz,Anz,Asz,-List.map_set,-List.getD_eq_getElem?_getD,e0])
    · intro k hk
      have e1:=Ddz mem L (rpt [x] c) k
      by_cases hlt:k < L.length
      · obtain ⟨g1,g2⟩:=hat k hlt
        have g3:(L.getD k 0).toNat < mem.length:=by omega
        have e2:putK mem L (rpt [x] c) (k + 1)=(putK mem L (rpt [x] c) k).set (L.getD k 0).toNat x:=by simp only [putK];rw [rpt_at (by omega)]
        generalize putK mem L (rpt [x] c) k=p at *
        (repeat' (first
 | (first|refine Ahz ?_|refine Abz ?_)
 | ((first|refine Aiz ?_|refine Afz ?_|refine Aoz ?_);simp (disch:=omega) only [push_cast,seval,l60r0,l60r1,l60r2,l60r3,l60r4,l60r5,l60r6,l60r7,l60r8,l60r9,e1])
 | ((first|refine Amz (fun h=>?_) (fun h=>?_))<;>(try simp only [h])<;>(try simp only [bitvec_to_nat] at h)<;>(try simp only [h])<;>(first|(exfalso;omega)|(exfalso;simp_all;done)|(simp (disch:=omega) only [push_cast,seval,e1])|skip))
 | (refine Adz ⟨.inr rfl,[336],[],_,by decide,rfl,?_⟩;(try simp (disch:=omega) only [push_cast,seval,↓Aez,↓Acz,↓List.map_cons,↓List.map_nil,e1]))))
        refine ⟨k + 1,by omega,by omega,?_⟩
        (refine Sub.of_lists ?_ ?_ ?_ ?_ ?_<;>simp [Vw.mkS,Vw.lk,Vw.hk,AV.inn,innL,Arz,Anz,Asz,-List.map_set,-List.getD_eq_getElem?_getD,e2,Bgz])
      · have hke:k=L.length:=by omega
        have e3:putK mem L (rpt [x] c) k=putL mem L (rpt [x] c):=by rw [hke];rfl
        rw [e3]
        (repeat' (first
 | (first|refine Ahz ?_|refine Abz ?_)
 | ((first|refine Aiz ?_|refine Afz ?_|refine A7z ?_);simp (disch:=omega) only [push_cast,seval,l60r0,l60r1,l60r2,l60r3,l60r4,l60r5,l60r6,l60r7,l60r8,l60r9,hpl])
 | ((first|refine Amz (fun h=>?_) (fun h=>?_))<;>(try simp only [h])<;>(try simp only [bitvec_to_nat] at h)<;>(try simp only [h])<;>(first|(exfalso;omega)|(exfalso;simp_all;done)|(simp (disch:=omega) only [push_cast,seval,hpl])|skip))
 | (refine Adz ⟨.inr rfl,[336],[],_,by decide,rfl,?_⟩;(try simp (disch:=omega) only [push_cast,seval,↓Aez,↓Acz,↓List.map_cons,↓List.map_nil,hpl]))))
        all_goals simp [TB,MVL,hpl]
  · have hx':(decide (0 ≤ x) && decide (x ≤ 255))=false:=by
      rw [Bool.eq_false_iff]
      intro h
      simp at h
      exact hx h
    have hxa:allI [x] 0 255=false:=by
      rw [Bool.eq_false_iff]
      intro h
      simp [allI] at h
      exact hx h
    rw [hx']
    (repeat' (first
 | (first|refine Ahz ?_|refine Abz ?_)
 | ((first|refine Aiz ?_|refine Afz ?_);simp (disch:=omega) only [push_cast,seval,l60r0,l60r1,l60r2,l60r3,l60r4,l60r5,l60r6,l60r7,l60r8,l60r9,h1,hx',hxa])
 | ((first|refine Alz false ?_);simp (disch:=omega) only [push_cast,seval,h1,hx',hxa])
 | ((first|((first|refine Akz (Ajz (Ckz _ _ _ _ _ _ _ ?_ ?_ ?_ ?_)) ?_|refine Agz (Ajz (Ckz _ _ _ _ _ _ _ ?_ ?_ ?_ ?_)) ⟨_,_,rfl,rfl⟩ ?_);(iterate 4 (exact sd));rintro _ _ ⟨rfl,rfl⟩)|((first|refine Akz (Ajz (Apz _ _ _)) ?_|refine Agz (Ajz (Apz _ _ _)) ⟨_,_,rfl,rfl⟩ ?_);rintro _ _ ⟨rfl,rfl⟩))<;>(try simp (disch:=omega) only [push_cast,seval,h1,hx',hxa]))
 | (refine Adz ⟨.inr rfl,[16000],[(16000,1)],_,by decide,rfl,?_⟩;(try simp (disch:=omega) only [push_cast,seval,↓Aez,↓Acz,↓List.map_cons,↓List.map_nil,h1,hx',hxa]))))
    all_goals simp [TB,MVL]

end Go.Proofs.YtfccepgibbdfaaaDoor
namespace Go.Proofs.YtfccepgibbdfaaaDoor
open VwM Vw Go
variable [PowA]

end Go.Proofs.YtfccepgibbdfaaaDoor
namespace Go.Proofs.YtfccepgibbdfaaaDoor
open VwM Vw Go
variable [PowA]

theorem swL_EL (a b:Nat) (c:Bool):∀ es:List Ex,swL a b (EL c es)=EL c es
  | []=>rfl
  | l :: r=>by simp only [EL,swL,AV.sw,swL_IL,swL_EL a b c r]
end Go.Proofs.YtfccepgibbdfaaaDoor
namespace Go.Proofs.YtfccepgibbdfaaaDoor
open VwM Vw Go
variable [PowA]

/-- An export by itself. -/
def exV (m:Int) (i:Nat) (e:Ex):Bool:=(decide (-1 ≤ e.1) && decide (e.1 ≤ (i:Int) - 1)) && vV e.2.1.1 e.2.1.2.1 e.2.1.2.2 && (!e.2.2 || allI (offs e.2.1.1 e.2.1.2.1 e.2.1.2.2) 0 (m - 1))
def opE (es:List Ex) (p:Int):Bool:=match es[p.toNat]? with|some f=>f.2.2|none=>false
/-- An export of a buffer. -/
def sxV (m:Int) (es:List Ex) (i:Nat) (e:Ex):Bool:=exV m i e && (!e.2.2 || (decide (e.1 < 0) || opE es e.1))
def allX (f:Nat → Ex → Bool) (es:List Ex):Nat → Bool
  | 0=>true
  | k + 1=>allX f es k && (match es[k]? with|some e=>f k e|none=>true)
def vB (cs:List Int) (es:List Ex):Bool:=vMem cs && decide (es.length ≤ 8) && allX (sxV cs.length es) es es.length
theorem allX_succ {f:Nat → Ex → Bool} {es:List Ex} {k:Nat} {e:Ex} (h:es[k]?=some e):allX f es (k + 1)=(allX f es k && f k e):=by simp only [allX,h]
theorem Eaz {f:Nat → Ex → Bool} {es:List Ex}:∀ {k:Nat},allX f es k=true ↔ ∀ i e,i < k → es[i]?=some e → f i e=true
  | 0=>by simp [allX]
  | k + 1=>by
    constructor
    · intro h i e hi he
      simp only [allX,Bool.and_eq_true] at h
      by_cases hik:i=k
      · subst hik;rw [he] at h;exact h.2
      · exact Eaz.1 h.1 i e (by omega) he
    · intro h
      simp only [allX,Bool.and_eq_true]
      refine ⟨Eaz.2 fun i e hi he=>h i e (by omega) he,?_⟩
      cases he:es[k]? with
 | none=>rfl
 | some e=>exact h k e (by omega) he
theorem allX_no {f:Nat → Ex → Bool} {es:List Ex} {i n:Nat} {e:Ex} (h:es[i]?=some e) (hf:f i e=false) (hi:i < n):allX f es n=false:=by
  rw [Bool.eq_false_iff]
  intro h'
  have:=Eaz.1 h' i e hi h
  rw [hf] at this;cases this
theorem Elz {es:List Ex} {i:Nat} (h:i < es.length):∃ p b x y o,es[i]?=some (p,(b,x,y),o):=⟨_,_,_,_,_,List.getElem?_eq_getElem h⟩
/-- Bounds of what a buffer's exports have. -/
def exB (n:Nat) (es:List Ex):Prop:=∀ e ∈ es,e.2.1.2.1.length ≤ n ∧ e.2.1.2.2.length ≤ n
theorem Fhz {n:Nat} {es:List Ex} (h:exB n es) {i:Nat} {p b:Int} {x y:List Int} {o:Bool} (he:es[i]?=some (p,(b,x,y),o)):x.length ≤ n ∧ y.length ≤ n:=h _ (List.mem_of_getElem? he)


theorem Byz (b:Int) (sh st:List Int) (s:Int) (n m:Nat) (hn:sh.length=n) (hm:st.length=m) (hb:okV b sh st ∧ -1000000 ≤ s ∧ s ≤ 1099511627776):PCall Tryd.prog 57 [.agg [.int .i64 b,.rows false (IL sh) n,.rows false (IL st) m],.int .i64 s] (fun r=>r=.bool (allI (offs b sh st) 0 (s - 1))):=by
  subst hn hm
  obtain ⟨hok,hs1,hs2⟩:=hb
  have hol:=Bkz b sh st
  have hpb:=hok.1.2
  have hlb:(offs b sh st).length ≤ 1099511627776:=by omega
  refine A1z l57_eq rfl ?_
  (repeat' (first
 | (first|refine Ahz ?_|refine Abz ?_)
 | ((first|refine Aiz ?_);simp (disch:=omega) only [push_cast,seval,l57r0,l57r1])
 | ((first|refine Alz false ?_);simp (disch:=omega) only [push_cast,seval])
 | ((first|((first|refine Akz (Bjz _ _ _ _ _ ?_ ?_ ?_) ?_|refine Agz (Bjz _ _ _ _ _ ?_ ?_ ?_) ⟨_,_,rfl,rfl⟩ ?_);(iterate 3 (exact sd));rintro _ _ ⟨rfl,rfl⟩)|((first|refine Akz (Ajz (Bfz _ _ _ _ ?_ ?_)) ?_|refine Agz (Ajz (Bfz _ _ _ _ ?_ ?_)) ⟨_,_,rfl,rfl⟩ ?_);(iterate 2 (exact sd));rintro _ _ ⟨rfl,rfl⟩))<;>(try simp (disch:=omega) only [push_cast,seval]))
 | (refine Adz ⟨.inr rfl,_,rfl,?_⟩;(try simp (disch:=omega) only [push_cast,seval]))))


set_option maxHeartbeats 8000000 in
theorem Iaz (cs:List Int) (es:List Ex) (m n i:Nat) (p b:Int) (x y:List Int) (o:Bool) (hm:cs.length=m) (hn:es.length=n) (he:es[i]?=some (p,(b,x,y),o)) (hb:m ≤ 1099511627776 ∧ n ≤ 1099511627776 ∧ exB 1099511627776 es) :
    PCall Tryd.prog 53 [.agg [.rows false (IL cs) m,.rows false (EL false es) n],.int .i64 i] (fun r=>r=.bool (sxV m es i (p,(b,x,y),o))):=by
  subst hm hn
  obtain ⟨hb1,hb2,hb3⟩:=hb
  have hlt:i < es.length:=(List.getElem?_eq_some_iff.1 he).1
  obtain ⟨hbx,hby⟩:=Fhz hb3 he
  have hd:=Crz false es i he
  simp only at hd
  have hel:=A0z false es
  have hil:i * 5 + 5 ≤ es.length * 5:=by omega
  refine A1z l53_eq rfl ?_
  unfold sxV exV
  simp only
  by_cases hp:-1 ≤ p ∧ p ≤ (i:Int) - 1
  · have hpd:(decide (-1 ≤ p) && decide (p ≤ (i:Int) - 1))=true:=by rw [Bool.and_eq_true,decide_eq_true_eq,decide_eq_true_eq];exact hp
    rw [hpd]
    cases hv:vV b x y with
    | false =>
      (repeat' (first
 | (first|refine Ahz ?_|refine Abz ?_)
 | ((first|refine Aiz ?_|refine Afz ?_);simp (disch:=omega) only [push_cast,seval,l53r0,l53r1,l53r2,l53r3,l53r4,hd,hel,hil,hv,hpd,Aaz])
 | ((first|refine Alz false ?_);simp (disch:=omega) only [push_cast,seval,hd,hel,hil,hv,hpd,Aaz])
 | ((first|((first|refine Akz (Ajz (Apz _ _ _)) ?_|refine Agz (Ajz (Apz _ _ _)) ⟨_,_,rfl,rfl⟩ ?_);rintro _ _ ⟨rfl,rfl⟩)|((first|refine Akz (Ajz (Aqz _ _ _ _ _ ?_ ?_ ?_)) ?_|refine Agz (Ajz (Aqz _ _ _ _ _ ?_ ?_ ?_)) ⟨_,_,rfl,rfl⟩ ?_);(iterate 3 (exact sd));rintro _ _ ⟨rfl,rfl⟩))<;>(try simp (disch:=omega) only [push_cast,seval,hd,hel,hil,hv,hpd,Aaz]))
 | (refine Adz ⟨.inr rfl,_,rfl,?_⟩;(try simp (disch:=omega) only [push_cast,seval,hd,hel,hil,hv,hpd,Aaz]))))
      all_goals (try simp)
    | true =>
      have q:okV b x y ∧ -1000000 ≤ (cs.length:Int) ∧ (cs.length:Int) ≤ 1099511627776:=⟨(Cqz hv).1,by omega⟩
      cases o with
 | false =>
        (repeat' (first
 | (first|refine Ahz ?_|refine Abz ?_)
 | ((first|refine Aiz ?_|refine Afz ?_|refine Aoz ?_);simp (disch:=omega) only [push_cast,seval,l53r0,l53r1,l53r2,l53r3,l53r4,hd,hel,hil,hv,hpd,Aaz])
 | ((first|refine Alz false ?_);simp (disch:=omega) only [push_cast,seval,hd,hel,hil,hv,hpd,Aaz])
 | ((first|((first|refine Akz (Ajz (Apz _ _ _)) ?_|refine Agz (Ajz (Apz _ _ _)) ⟨_,_,rfl,rfl⟩ ?_);rintro _ _ ⟨rfl,rfl⟩)|((first|refine Akz (Ajz (Aqz _ _ _ _ _ ?_ ?_ ?_)) ?_|refine Agz (Ajz (Aqz _ _ _ _ _ ?_ ?_ ?_)) ⟨_,_,rfl,rfl⟩ ?_);(iterate 3 (exact sd));rintro _ _ ⟨rfl,rfl⟩))<;>(try simp (disch:=omega) only [push_cast,seval,hd,hel,hil,hv,hpd,Aaz]))
 | (refine Adz ⟨.inr rfl,_,rfl,?_⟩;(try simp (disch:=omega) only [push_cast,seval,hd,hel,hil,hv,hpd,Aaz]))))
        all_goals (try simp)
 | true =>
        cases hf:allI (offs b x y) 0 ((cs.length:Int) - 1) with
        | false =>
          (repeat' (first
 | (first|refine Ahz ?_|refine Abz ?_)
 | ((first|refine Aiz ?_|refine Afz ?_|refine Aoz ?_);simp (disch:=omega) only [push_cast,seval,l53r0,l53r1,l53r2,l53r3,l53r4,hd,hel,hil,hv,hpd,hf,Aaz])
 | ((first|refine Alz false ?_);simp (disch:=omega) only [push_cast,seval,hd,hel,hil,hv,hpd,hf,Aaz])
 | ((first|((first|refine Akz (Ajz (Apz _ _ _)) ?_|refine Agz (Ajz (Apz _ _ _)) ⟨_,_,rfl,rfl⟩ ?_);rintro _ _ ⟨rfl,rfl⟩)|((first|refine Akz (Ajz (Aqz _ _ _ _ _ ?_ ?_ ?_)) ?_|refine Agz (Ajz (Aqz _ _ _ _ _ ?_ ?_ ?_)) ⟨_,_,rfl,rfl⟩ ?_);(iterate 3 (exact sd));rintro _ _ ⟨rfl,rfl⟩)|((first|refine Akz (Ajz (Byz _ _ _ _ _ _ ?_ ?_ ?_)) ?_|refine Agz (Ajz (Byz _ _ _ _ _ _ ?_ ?_ ?_)) ⟨_,_,rfl,rfl⟩ ?_);(iterate 3 (exact sd));rintro _ _ ⟨rfl,rfl⟩))<;>(try simp (disch:=omega) only [push_cast,seval,hd,hel,hil,hv,hpd,hf,Aaz]))
 | (refine Adz ⟨.inr rfl,_,rfl,?_⟩; (try simp (disch := omega) only [push_cast,seval,hd,hel,hil,hv,hpd,hf,Aaz]))))
          all_goals (try simp)
        | true =>
          by_cases hpm:p < 0
          · (repeat' (first
 | (first|refine Ahz ?_|refine Abz ?_)
 | ((first|refine Aiz ?_|refine Afz ?_|refine Aoz ?_);simp (disch:=omega) only [push_cast,seval,l53r0,l53r1,l53r2,l53r3,l53r4,hd,hel,hil,hv,hpd,hf,hpm,Aaz])
 | ((first|refine Alz false ?_);simp (disch:=omega) only [push_cast,seval,hd,hel,hil,hv,hpd,hf,hpm,Aaz])
 | ((first|((first|refine Akz (Ajz (Apz _ _ _)) ?_|refine Agz (Ajz (Apz _ _ _)) ⟨_,_,rfl,rfl⟩ ?_);rintro _ _ ⟨rfl,rfl⟩)|((first|refine Akz (Ajz (Aqz _ _ _ _ _ ?_ ?_ ?_)) ?_|refine Agz (Ajz (Aqz _ _ _ _ _ ?_ ?_ ?_)) ⟨_,_,rfl,rfl⟩ ?_);(iterate 3 (exact sd));rintro _ _ ⟨rfl,rfl⟩)|((first|refine Akz (Ajz (Byz _ _ _ _ _ _ ?_ ?_ ?_)) ?_|refine Agz (Ajz (Byz _ _ _ _ _ _ ?_ ?_ ?_)) ⟨_,_,rfl,rfl⟩ ?_);(iterate 3 (exact sd));rintro _ _ ⟨rfl,rfl⟩))<;>(try simp (disch:=omega) only [push_cast,seval,hd,hel,hil,hv,hpd,hf,hpm,Aaz]))
 | (refine Adz ⟨.inr rfl,_,rfl,?_⟩; (try simp (disch := omega) only [push_cast,seval,hd,hel,hil,hv,hpd,hf,hpm,Aaz]))))
            all_goals (try simp [hpm])
          · obtain ⟨q,rfl⟩:∃ q:Nat,p=q:=⟨p.toNat,by omega⟩
            obtain ⟨p2,b2,x2,y2,o2,he2⟩:=Elz (es:=es) (i:=q) (by omega)
            have hd2:=Crz false es q he2
            simp only at hd2
            have hil2:q * 5 + 5 ≤ es.length * 5:=by omega
            have h4:((EL false es).drop (q * 5 + 4)).take 1=[.bool o2]:=by
              have:=congrArg (fun l=>(l.drop 4).take 1) hd2
              simpa [List.drop_take,List.drop_drop,List.take_take] using this
            have ho:opE es (q:Int)=o2:=by simp [opE,he2]
            (repeat' (first
 | (first|refine Ahz ?_|refine Abz ?_)
 | ((first|refine Aiz ?_|refine Afz ?_|refine Aoz ?_);simp (disch:=omega) only [push_cast,seval,l53r0,l53r1,l53r2,l53r3,l53r4,hd,hel,hil,hd2,hil2,h4,hv,hpd,hf,hpm,ho,Aaz])
 | ((first|refine Alz false ?_);simp (disch:=omega) only [push_cast,seval,hd,hel,hil,hd2,hil2,h4,hv,hpd,hf,hpm,ho,Aaz])
 | ((first|((first|refine Akz (Ajz (Apz _ _ _)) ?_|refine Agz (Ajz (Apz _ _ _)) ⟨_,_,rfl,rfl⟩ ?_);rintro _ _ ⟨rfl,rfl⟩)|((first|refine Akz (Ajz (Aqz _ _ _ _ _ ?_ ?_ ?_)) ?_|refine Agz (Ajz (Aqz _ _ _ _ _ ?_ ?_ ?_)) ⟨_,_,rfl,rfl⟩ ?_);(iterate 3 (exact sd));rintro _ _ ⟨rfl,rfl⟩)|((first|refine Akz (Ajz (Byz _ _ _ _ _ _ ?_ ?_ ?_)) ?_|refine Agz (Ajz (Byz _ _ _ _ _ _ ?_ ?_ ?_)) ⟨_,_,rfl,rfl⟩ ?_);(iterate 3 (exact sd));rintro _ _ ⟨rfl,rfl⟩))<;>(try simp (disch:=omega) only [push_cast,seval,hd,hel,hil,hd2,hil2,h4,hv,hpd,hf,hpm,ho,Aaz]))
 | (refine Adz ⟨.inr rfl,_,rfl,?_⟩; (try simp (disch := omega) only [push_cast,seval,hd,hel,hil,hd2,hil2,h4,hv,hpd,hf,hpm,ho,Aaz]))))
            all_goals (try simp [hpm,ho])
  · have hpd:(decide (-1 ≤ p) && decide (p ≤ (i:Int) - 1))=false:=by rw [Bool.eq_false_iff];intro h;simp at h;omega
    rw [hpd]
    (repeat' (first
 | (first|refine Ahz ?_|refine Abz ?_)
 | ((first|refine Aiz ?_|refine Afz ?_);simp (disch:=omega) only [push_cast,seval,l53r0,l53r1,l53r2,l53r3,l53r4,hd,hel,hil,hpd,Aaz])
 | ((first|refine Alz false ?_);simp (disch:=omega) only [push_cast,seval,hd,hel,hil,hpd,Aaz])
 | ((first|((first|refine Akz (Ajz (Apz _ _ _)) ?_|refine Agz (Ajz (Apz _ _ _)) ⟨_,_,rfl,rfl⟩ ?_);rintro _ _ ⟨rfl,rfl⟩))<;>(try simp (disch:=omega) only [push_cast,seval,hd,hel,hil,hpd,Aaz]))
 | (refine Adz ⟨.inr rfl,_,rfl,?_⟩;(try simp (disch:=omega) only [push_cast,seval,hd,hel,hil,hpd,Aaz]))))
    all_goals (try simp)

end Go.Proofs.YtfccepgibbdfaaaDoor
namespace Go.Proofs.YtfccepgibbdfaaaDoor
open VwM Vw Go
variable [PowA]

set_option maxHeartbeats 8000000 in
theorem Azz (cs:List Int) (es:List Ex) (m n:Nat) (hm:cs.length=m) (hn:es.length=n) (hb:m ≤ 1099511627776 ∧ n ≤ 1099511627776 ∧ exB 1099511627776 es) :
    PCall Tryd.prog 40 [.agg [.rows false (IL cs) m,.rows false (EL false es) n]] (fun r=>r=.bool (vB cs es)):=by
  subst hm hn
  have hb0:=hb
  obtain ⟨hb1,hb2,hb3⟩:=hb
  have hel:=A0z false es
  refine A1z l40_eq rfl ?_
  unfold vB
  (repeat' (first
 | (first|refine Ahz ?_|refine Abz ?_)
 | ((first|refine Aiz ?_);simp (disch:=omega) only [push_cast,seval,l40r0,l40r1,l40r2,l40r3,l40r4,l40r5,l40r6,Aaz])
 | (refine Adz ⟨.inr rfl,_,rfl,?_⟩;(try simp (disch:=omega) only [push_cast,seval,Aaz]))))
  refine Bez (fun i:Nat=>mkS [(1,.ref 16 2 0),(2,.bool false),(3,.int .i64 i)] [(16,[.rows false (IL cs) cs.length,.rows false (EL false es) es.length])]) (fun i=>i ≤ es.length ∧ allX (sxV cs.length es) es i=true) (fun i=>es.length - i) 0 ⟨Nat.zero_le _,rfl⟩ ?_ ?_
  · (refine Sub.of_lists ?_ ?_ ?_ ?_ ?_<;>simp [Vw.mkS,Vw.lk,Vw.hk,AV.inn,innL,Arz,Anz,Asz,-List.map_set,-List.getD_eq_getElem?_getD,Aaz])
  · rintro i ⟨hi,hal⟩
    by_cases hlt:i < es.length
    · obtain ⟨p,b,x,y,o,he⟩:=Elz hlt
      cases hs:sxV cs.length es i (p,(b,x,y),o) with
 | false =>
        have hno:=allX_no (f:=sxV cs.length es) he hs hlt
        (repeat' (first
 | (first|refine Ahz ?_|refine Abz ?_)
 | ((first|refine Aiz ?_|refine Afz ?_|refine Aoz ?_);simp (disch:=omega) only [push_cast,seval,l40r0,l40r1,l40r2,l40r3,l40r4,l40r5,l40r6,hel,hs,Aaz])
 | ((first|refine Amz (fun h=>?_) (fun h=>?_))<;>(try simp only [h])<;>(try simp only [bitvec_to_nat] at h)<;>(try simp only [h])<;>(first|(exfalso;omega)|(exfalso;simp_all;done)|(simp (disch:=omega) only [push_cast,seval,hel,hs,Aaz])|skip))
 | ((first|refine Alz false ?_);simp (disch:=omega) only [push_cast,seval,hel,hs,Aaz])
 | ((first|((first|refine Akz (Ajz (Iaz _ _ _ _ _ _ _ _ _ _ ?_ ?_ (by assumption) ?_)) ?_|refine Agz (Ajz (Iaz _ _ _ _ _ _ _ _ _ _ ?_ ?_ (by assumption) ?_)) ⟨_,_,rfl,rfl⟩ ?_);(iterate 3 (exact sd));rintro _ _ ⟨rfl,rfl⟩))<;>(try simp (disch:=omega) only [push_cast,seval,hel,hs,Aaz]))
 | (refine Adz ⟨.inr rfl,_,rfl,?_⟩;(try simp (disch:=omega) only [push_cast,seval,hel,hs,Aaz]))))
        all_goals (try simp [hno])
 | true =>
        have hyes:allX (sxV cs.length es) es (i + 1)=true:=by rw [allX_succ he,hal,hs];rfl
        (repeat' (first
 | (first|refine Ahz ?_|refine Abz ?_)
 | ((first|refine Aiz ?_|refine Afz ?_|refine Aoz ?_);simp (disch:=omega) only [push_cast,seval,l40r0,l40r1,l40r2,l40r3,l40r4,l40r5,l40r6,hel,hs,Aaz])
 | ((first|refine Amz (fun h=>?_) (fun h=>?_))<;>(try simp only [h])<;>(try simp only [bitvec_to_nat] at h)<;>(try simp only [h])<;>(first|(exfalso;omega)|(exfalso;simp_all;done)|(simp (disch:=omega) only [push_cast,seval,hel,hs,Aaz])|skip))
 | ((first|refine Alz false ?_);simp (disch:=omega) only [push_cast,seval,hel,hs,Aaz])
 | ((first|((first|refine Akz (Ajz (Iaz _ _ _ _ _ _ _ _ _ _ ?_ ?_ (by assumption) ?_)) ?_|refine Agz (Ajz (Iaz _ _ _ _ _ _ _ _ _ _ ?_ ?_ (by assumption) ?_)) ⟨_,_,rfl,rfl⟩ ?_);(iterate 3 (exact sd));rintro _ _ ⟨rfl,rfl⟩))<;>(try simp (disch:=omega) only [push_cast,seval,hel,hs,Aaz]))
 | (refine Adz ⟨.inr rfl,_,rfl,?_⟩;(try simp (disch:=omega) only [push_cast,seval,hel,hs,Aaz]))))
        refine ⟨i + 1,⟨by omega,hyes⟩,by omega,?_⟩
        (refine Sub.of_lists ?_ ?_ ?_ ?_ ?_<;>simp [Vw.mkS,Vw.lk,Vw.hk,AV.inn,innL,Arz,Anz,Asz,-List.map_set,-List.getD_eq_getElem?_getD,Aaz])
    · have e:i=es.length:=by omega
      subst e
      cases hv:vMem cs with
 | false =>
        (repeat' (first
 | (first|refine Ahz ?_|refine Abz ?_)
 | ((first|refine Aiz ?_|refine Afz ?_|refine A7z ?_);simp (disch:=omega) only [push_cast,seval,l40r0,l40r1,l40r2,l40r3,l40r4,l40r5,l40r6,hel,hv,hal,Aaz])
 | ((first|refine Amz (fun h=>?_) (fun h=>?_))<;>(try simp only [h])<;>(try simp only [bitvec_to_nat] at h)<;>(try simp only [h])<;>(first|(exfalso;omega)|(exfalso;simp_all;done)|(simp (disch:=omega) only [push_cast,seval,hel,hv,hal,Aaz])|skip))
 | ((first|refine Alz false ?_);simp (disch:=omega) only [push_cast,seval,hel,hv,hal,Aaz])
 | ((first|((first|refine Akz (Ajz (Cgz _ _ ?_ ?_)) ?_|refine Agz (Ajz (Cgz _ _ ?_ ?_)) ⟨_,_,rfl,rfl⟩ ?_);(iterate 2 (exact sd));rintro _ _ ⟨rfl,rfl⟩))<;>(try simp (disch:=omega) only [push_cast,seval,hel,hv,hal,Aaz]))
 | (refine Adz ⟨.inr rfl,_,rfl,?_⟩;(try simp (disch:=omega) only [push_cast,seval,hel,hv,hal,Aaz]))))
        all_goals (try simp)
 | true =>
        (repeat' (first
 | (first|refine Ahz ?_|refine Abz ?_)
 | ((first|refine Aiz ?_|refine Afz ?_|refine A7z ?_);simp (disch:=omega) only [push_cast,seval,l40r0,l40r1,l40r2,l40r3,l40r4,l40r5,l40r6,hel,hv,hal,Aaz])
 | ((first|refine Amz (fun h=>?_) (fun h=>?_))<;>(try simp only [h])<;>(try simp only [bitvec_to_nat] at h)<;>(try simp only [h])<;>(first|(exfalso;omega)|(exfalso;simp_all;done)|(simp (disch:=omega) only [push_cast,seval,hel,hv,hal,Aaz])|skip))
 | ((first|refine Alz false ?_);simp (disch:=omega) only [push_cast,seval,hel,hv,hal,Aaz])
 | ((first|((first|refine Akz (Ajz (Cgz _ _ ?_ ?_)) ?_|refine Agz (Ajz (Cgz _ _ ?_ ?_)) ⟨_,_,rfl,rfl⟩ ?_);(iterate 2 (exact sd));rintro _ _ ⟨rfl,rfl⟩))<;>(try simp (disch:=omega) only [push_cast,seval,hel,hv,hal,Aaz]))
 | (refine Adz ⟨.inr rfl,_,rfl,?_⟩;(try simp (disch:=omega) only [push_cast,seval,hel,hv,hal,Aaz]))))
        all_goals (try simp)
        all_goals (try omega)


theorem F1z {es:List Ex} {p:Int}:∀ {k:Nat},kidsT es p k=[] ↔ ∀ i e,i < k → es[i]?=some e → ¬ (e.2.2=true ∧ e.1=p)
  | 0=>by simp [kidsT]
  | k + 1=>by
    constructor
    · intro h i e hi he
      cases hk:es[k]? with
 | none =>
        by_cases hik:i=k
        · subst hik;rw [hk] at he;cases he
        · simp only [kidsT,hk] at h
          exact F1z.1 h i e (by omega) he
 | some f =>
        by_cases hf:f.2.2=true ∧ f.1=p
        · rw [kidsT_yes hk hf] at h;simp at h
        · rw [F0z hk hf] at h
          by_cases hik:i=k
          · subst hik;rw [hk] at he;injection he with he;subst he;exact hf
          · exact F1z.1 h i e (by omega) he
    · intro h
      have ih:kidsT es p k=[]:=F1z.2 fun i e hi he=>h i e (by omega) he
      cases hk:es[k]? with
 | none=>simp only [kidsT,hk];exact ih
 | some f=>rw [F0z hk (h k f (by omega) hk)];exact ih
end Go.Proofs.YtfccepgibbdfaaaDoor
namespace Go.Proofs.YtfccepgibbdfaaaDoor
open VwM Vw Go
variable [PowA]

end Go.Proofs.YtfccepgibbdfaaaDoor
namespace Go.Proofs.YtfccepgibbdfaaaDoor
open VwM Vw Go
variable [PowA]

end Go.Proofs.YtfccepgibbdfaaaDoor
namespace Go.Proofs.YtfccepgibbdfaaaDoor
open VwM Vw Go
variable [PowA]

end Go.Proofs.YtfccepgibbdfaaaDoor
namespace Go.Proofs.YtfccepgibbdfaaaDoor
open VwM Vw Go
variable [PowA]

def opensT (es:List Ex):Nat → List Int
  | 0=>[]
  | k + 1=>match es[k]? with
    | some e=>if e.2.2=true then opensT es k ++ [(k:Int)] else opensT es k
    | none=>opensT es k
theorem Hnz {es:List Ex} {k:Nat} {e:Ex} (h:es[k]?=some e) (h1:e.2.2=true):opensT es (k + 1)=opensT es k ++ [(k:Int)]:=by
  simp only [opensT,h,if_pos h1]
theorem Ghz {es:List Ex} {k:Nat} {e:Ex} (h:es[k]?=some e) (h1:¬ e.2.2=true):opensT es (k + 1)=opensT es k:=by
  simp only [opensT,h,if_neg h1]
theorem Fdz (es:List Ex):∀ k,(opensT es k).length ≤ k
  | 0=>Nat.le_refl _
  | k + 1=>by
    have:=Fdz es k
    simp only [opensT]
    split
    · split
      · simp;omega
      · omega
    · omega
def opensA (cs:List Int) (es:List Ex):List Int:=if vB cs es=true then opensT es es.length else []
theorem Hoz (cs:List Int) (es:List Ex):(opensA cs es).length ≤ es.length:=by
  unfold opensA
  split
  · exact Fdz _ _
  · exact Nat.zero_le _
theorem vB_8 {cs:List Int} {es:List Ex} (h:vB cs es=true):es.length ≤ 8 ∧ cs.length ≤ 60 ∧ parOk es:=by
  unfold vB at h
  simp only [Bool.and_eq_true,decide_eq_true_eq] at h
  obtain ⟨⟨h1,h2⟩,h3⟩:=h
  refine ⟨h2,by unfold vMem at h1;simp at h1;omega,fun i e he=>?_⟩
  have hi:i < es.length:=(List.getElem?_eq_some_iff.1 he).1
  have:=(Eaz (f:=sxV cs.length es)).1 h3 i e hi he
  unfold sxV exV at this
  simp only [Bool.and_eq_true,decide_eq_true_eq] at this
  omega


set_option maxHeartbeats 8000000 in
theorem Fwz (cs:List Int) (es:List Ex) (m n:Nat) (id:Int) (hm:cs.length=m) (hn:es.length=n) (hb:m ≤ 1000 ∧ n ≤ 1000) :
    BCall Tryd.prog 62 [.agg [.rows false (IL cs) m,.rows false (EL false es) n],.int .i64 id] [] (OI (kidsT es id n)):=by
  subst hm hn
  obtain ⟨hb1,hb2⟩:=hb
  refine Axz (pins:=[]) (pin:=0) l62_eq rfl rfl rfl ?_
  have hel:=A0z false es
  (repeat' (first
 | (first|refine Ahz ?_|refine Abz ?_)
 | ((first|refine Aiz ?_);simp (disch:=omega) only [push_cast,seval,l62r0,l62r1,l62r2,l62r3,l62r4,l62r5,l62r6,l62r7,Aaz])
 | (refine Adz ⟨.inr rfl,[112],[],_,by decide,rfl,?_⟩;(try simp (disch:=omega) only [push_cast,seval,↓Aez,↓Acz,↓List.map_cons,↓List.map_nil,Aaz]))))
  refine Bez (fun i:Nat=>mkS [(1,.int .i64 id),(2,.ref 32 2 0),(5,.own 112 (kidsT es id i).length 1),(6,.int .i64 i)] [(32,[.rows false (IL cs) cs.length,.rows false (EL false es) es.length]),(112,IL (kidsT es id i))]) (fun i=>i ≤ es.length) (fun i=>es.length - i) 0 (Nat.zero_le _) ?_ ?_
  · have e0:kidsT es id 0=[]:=rfl
    (refine Sub.of_lists ?_ ?_ ?_ ?_ ?_<;>simp [Vw.mkS,Vw.lk,Vw.hk,AV.inn,innL,Arz,Anz,Asz,-List.map_set,-List.getD_eq_getElem?_getD,Aaz,e0])
  · intro i hi
    by_cases hlt:i < es.length
    · obtain ⟨p,b,x,y,o,he⟩:=Elz hlt
      have hd:=Crz false es i he
      simp only at hd
      have hd0:((EL false es).drop (i * 5)).take 1=[.int .i64 p]:=by have:=congrArg (fun l=>l.take 1) hd;simpa [List.take_take] using this
      have hd4:((EL false es).drop (i * 5 + 4)).take 1=[.bool o]:=by have:=congrArg (fun l=>(l.drop 4).take 1) hd;simpa [List.drop_take,List.take_take] using this
      have hil:i * 5 + 5 ≤ es.length * 5:=by omega
      have hkl:=kidsT_len es id i
      cases o with
 | false =>
        have e1:=F0z (p:=id) he (by simp)
        (repeat' (first
 | (first|refine Ahz ?_|refine Abz ?_)
 | ((first|refine Aiz ?_|refine Afz ?_|refine Aoz ?_);simp (disch:=omega) only [push_cast,seval,l62r0,l62r1,l62r2,l62r3,l62r4,l62r5,l62r6,l62r7,hd0,hd4,hel,hil,Aaz])
 | ((first|refine Amz (fun h=>?_) (fun h=>?_))<;>(try simp only [h])<;>(try simp only [bitvec_to_nat] at h)<;>(try simp only [h])<;>(first|(exfalso;omega)|(exfalso;simp_all;done)|(simp (disch:=omega) only [push_cast,seval,hd0,hd4,hel,hil,Aaz])|skip))
 | (refine Adz ⟨.inr rfl,[112],[],_,by decide,rfl,?_⟩;(try simp (disch:=omega) only [push_cast,seval,↓Aez,↓Acz,↓List.map_cons,↓List.map_nil,hd0,hd4,hel,hil,Aaz]))))
        all_goals (refine ⟨i + 1,by omega,by omega,?_⟩;(refine Sub.of_lists ?_ ?_ ?_ ?_ ?_<;>simp [Vw.mkS,Vw.lk,Vw.hk,AV.inn,innL,Arz,Anz,Asz,-List.map_set,-List.getD_eq_getElem?_getD,Aaz,e1]))
 | true =>
        by_cases hpe:p=id
        · have e1:=kidsT_yes (p:=id) he ⟨rfl,hpe⟩
          (repeat' (first
 | (first|refine Ahz ?_|refine Abz ?_)
 | ((first|refine Aiz ?_|refine Afz ?_|refine Aoz ?_);simp (disch:=omega) only [push_cast,seval,l62r0,l62r1,l62r2,l62r3,l62r4,l62r5,l62r6,l62r7,hd0,hd4,hel,hil,hpe,hkl,Aaz])
 | ((first|refine Amz (fun h=>?_) (fun h=>?_))<;>(try simp only [h])<;>(try simp only [bitvec_to_nat] at h)<;>(try simp only [h])<;>(first|(exfalso;omega)|(exfalso;simp_all;done)|(simp (disch:=omega) only [push_cast,seval,hd0,hd4,hel,hil,hpe,hkl,Aaz])|skip))
 | (refine Adz ⟨.inr rfl,[112],[],_,by decide,rfl,?_⟩; (try simp (disch := omega) only [push_cast,seval,↓Aez,↓Acz,↓List.map_cons,↓List.map_nil,hd0,hd4,hel,hil,hpe,hkl,Aaz]))))
          all_goals (refine ⟨i + 1,by omega,by omega,?_⟩;(refine Sub.of_lists ?_ ?_ ?_ ?_ ?_<;>simp [Vw.mkS,Vw.lk,Vw.hk,AV.inn,innL,Arz,Anz,Asz,-List.map_set,-List.getD_eq_getElem?_getD,Aaz,e1,List.length_append]))
        · have e1:=F0z (p:=id) he (by simp [hpe])
          (repeat' (first
 | (first|refine Ahz ?_|refine Abz ?_)
 | ((first|refine Aiz ?_|refine Afz ?_|refine Aoz ?_);simp (disch:=omega) only [push_cast,seval,l62r0,l62r1,l62r2,l62r3,l62r4,l62r5,l62r6,l62r7,hd0,hd4,hel,hil,hpe,hkl,Aaz])
 | ((first|refine Amz (fun h=>?_) (fun h=>?_))<;>(try simp only [h])<;>(try simp only [bitvec_to_nat] at h)<;>(try simp only [h])<;>(first|(exfalso;omega)|(exfalso;simp_all;done)|(simp (disch:=omega) only [push_cast,seval,hd0,hd4,hel,hil,hpe,hkl,Aaz])|skip))
 | (refine Adz ⟨.inr rfl,[112],[],_,by decide,rfl,?_⟩; (try simp (disch := omega) only [push_cast,seval,↓Aez,↓Acz,↓List.map_cons,↓List.map_nil,hd0,hd4,hel,hil,hpe,hkl,Aaz]))))
          all_goals (refine ⟨i + 1,by omega,by omega,?_⟩;(refine Sub.of_lists ?_ ?_ ?_ ?_ ?_<;>simp [Vw.mkS,Vw.lk,Vw.hk,AV.inn,innL,Arz,Anz,Asz,-List.map_set,-List.getD_eq_getElem?_getD,Aaz,e1]))
    · have e:i=es.length:=by omega
      subst e
      (repeat' (first
 | (first|refine Ahz ?_|refine Abz ?_)
 | ((first|refine Aiz ?_|refine Afz ?_|refine A7z ?_);simp (disch:=omega) only [push_cast,seval,l62r0,l62r1,l62r2,l62r3,l62r4,l62r5,l62r6,l62r7,hel,Aaz])
 | ((first|refine Amz (fun h=>?_) (fun h=>?_))<;>(try simp only [h])<;>(try simp only [bitvec_to_nat] at h)<;>(try simp only [h])<;>(first|(exfalso;omega)|(exfalso;simp_all;done)|(simp (disch:=omega) only [push_cast,seval,hel,Aaz])|skip))
 | (refine Adz ⟨.inr rfl,[112],[],_,by decide,rfl,?_⟩;(try simp (disch:=omega) only [push_cast,seval,↓Aez,↓Acz,↓List.map_cons,↓List.map_nil,hel,Aaz]))))
      all_goals simp [OI]

end Go.Proofs.YtfccepgibbdfaaaDoor
namespace Go.Proofs.YtfccepgibbdfaaaDoor
open VwM Vw Go
variable [PowA]



set_option maxHeartbeats 8000000 in
theorem Ctz (cs:List Int) (es:List Ex) (m n:Nat) (hm:cs.length=m) (hn:es.length=n) (hb:m ≤ 1099511627776 ∧ n ≤ 1099511627776 ∧ exB 1099511627776 es) :
    BCall Tryd.prog 36 [.agg [.rows false (IL cs) m,.rows false (EL false es) n]] [] (OI (opensA cs es)):=by
  subst hm hn
  have hb0:=hb
  obtain ⟨hb1,hb2,hb3⟩:=hb
  have hel:=A0z false es
  refine Axz (pins:=[]) (pin:=0) l36_eq rfl rfl rfl ?_
  unfold opensA
  cases hv:vB cs es with
  | false =>
    (repeat' (first
 | (first|refine Ahz ?_|refine Abz ?_)
 | ((first|refine Aiz ?_|refine Afz ?_);simp (disch:=omega) only [push_cast,seval,l36r0,l36r1,l36r2,l36r3,l36r4,l36r5,l36r6,l36r7,l36r8,l36r9,hv,hel,Aaz])
 | ((first|refine Alz false ?_);simp (disch:=omega) only [push_cast,seval,hv,hel,Aaz])
 | ((first|((first|refine Akz (Ajz (Azz _ _ _ _ ?_ ?_ ?_)) ?_|refine Agz (Ajz (Azz _ _ _ _ ?_ ?_ ?_)) ⟨_,_,rfl,rfl⟩ ?_);(iterate 3 (exact sd));rintro _ _ ⟨rfl,rfl⟩))<;>(try simp (disch:=omega) only [push_cast,seval,hv,hel,Aaz]))
 | (refine Adz ⟨.inr rfl,[16000],[(16000,1)],_,by decide,rfl,?_⟩;(try simp (disch:=omega) only [push_cast,seval,↓Aez,↓Acz,↓List.map_cons,↓List.map_nil,hv,hel,Aaz]))))
    all_goals simp [OI]
  | true =>
    obtain ⟨v1,v2,v3⟩:=vB_8 hv
    (repeat' (first
 | (first|refine Ahz ?_|refine Abz ?_)
 | ((first|refine Aiz ?_|refine Afz ?_|refine Aoz ?_);simp (disch:=omega) only [push_cast,seval,l36r0,l36r1,l36r2,l36r3,l36r4,l36r5,l36r6,l36r7,l36r8,l36r9,hv,hel,Aaz])
 | ((first|refine Alz false ?_);simp (disch:=omega) only [push_cast,seval,hv,hel,Aaz])
 | ((first|((first|refine Akz (Ajz (Azz _ _ _ _ ?_ ?_ ?_)) ?_|refine Agz (Ajz (Azz _ _ _ _ ?_ ?_ ?_)) ⟨_,_,rfl,rfl⟩ ?_);(iterate 3 (exact sd));rintro _ _ ⟨rfl,rfl⟩))<;>(try simp (disch:=omega) only [push_cast,seval,hv,hel,Aaz]))
 | (refine Adz ⟨.inr rfl,[128],[],_,by decide,rfl,?_⟩;(try simp (disch:=omega) only [push_cast,seval,↓Aez,↓Acz,↓List.map_cons,↓List.map_nil,hv,hel,Aaz]))))
    refine Bez (fun i:Nat=>mkS [(1,.ref 16 2 0),(3,.own 128 (opensT es i).length 1),(4,.int .i64 i)] [(16,[.rows false (IL cs) cs.length,.rows false (EL false es) es.length]),(128,IL (opensT es i))]) (fun i=>i ≤ es.length) (fun i=>es.length - i) 0 (Nat.zero_le _) ?_ ?_
    · have e0:opensT es 0=[]:=rfl
      (refine Sub.of_lists ?_ ?_ ?_ ?_ ?_<;>simp [Vw.mkS,Vw.lk,Vw.hk,AV.inn,innL,Arz,Anz,Asz,-List.map_set,-List.getD_eq_getElem?_getD,Aaz,e0])
    · intro i hi
      by_cases hlt:i < es.length
      · obtain ⟨p,b,x,y,o,he⟩:=Elz hlt
        have hd:=Crz false es i he
        simp only at hd
        have hd4:((EL false es).drop (i * 5 + 4)).take 1=[.bool o]:=by have:=congrArg (fun l=>(l.drop 4).take 1) hd;simpa [List.drop_take,List.take_take] using this
        have hil:i * 5 + 5 ≤ es.length * 5:=by omega
        have hkl:=Fdz es i
        cases o with
        | false =>
          have e1:=Ghz he (by simp)
          (repeat' (first
 | (first|refine Ahz ?_|refine Abz ?_)
 | ((first|refine Aiz ?_|refine Afz ?_|refine Aoz ?_);simp (disch:=omega) only [push_cast,seval,l36r0,l36r1,l36r2,l36r3,l36r4,l36r5,l36r6,l36r7,l36r8,l36r9,hd4,hel,hil,Aaz])
 | ((first|refine Amz (fun h=>?_) (fun h=>?_))<;>(try simp only [h])<;>(try simp only [bitvec_to_nat] at h)<;>(try simp only [h])<;>(first|(exfalso;omega)|(exfalso;simp_all;done)|(simp (disch:=omega) only [push_cast,seval,hd4,hel,hil,Aaz])|skip))
 | (refine Adz ⟨.inr rfl,[128],[],_,by decide,rfl,?_⟩; (try simp (disch := omega) only [push_cast,seval,↓Aez,↓Acz,↓List.map_cons,↓List.map_nil,hd4,hel,hil,Aaz]))))
          all_goals (refine ⟨i + 1,by omega,by omega,?_⟩;(refine Sub.of_lists ?_ ?_ ?_ ?_ ?_<;>simp [Vw.mkS,Vw.lk,Vw.hk,AV.inn,innL,Arz,Anz,Asz,-List.map_set,-List.getD_eq_getElem?_getD,Aaz,e1]))
        | true =>
          have e1:=Hnz he rfl
          (repeat' (first
 | (first|refine Ahz ?_|refine Abz ?_)
 | ((first|refine Aiz ?_|refine Afz ?_|refine Aoz ?_);simp (disch:=omega) only [push_cast,seval,l36r0,l36r1,l36r2,l36r3,l36r4,l36r5,l36r6,l36r7,l36r8,l36r9,hd4,hel,hil,hkl,Aaz])
 | ((first|refine Amz (fun h=>?_) (fun h=>?_))<;>(try simp only [h])<;>(try simp only [bitvec_to_nat] at h)<;>(try simp only [h])<;>(first|(exfalso;omega)|(exfalso;simp_all;done)|(simp (disch:=omega) only [push_cast,seval,hd4,hel,hil,hkl,Aaz])|skip))
 | (refine Adz ⟨.inr rfl,[128],[],_,by decide,rfl,?_⟩; (try simp (disch := omega) only [push_cast,seval,↓Aez,↓Acz,↓List.map_cons,↓List.map_nil,hd4,hel,hil,hkl,Aaz]))))
          all_goals (refine ⟨i + 1,by omega,by omega,?_⟩;(refine Sub.of_lists ?_ ?_ ?_ ?_ ?_<;>simp [Vw.mkS,Vw.lk,Vw.hk,AV.inn,innL,Arz,Anz,Asz,-List.map_set,-List.getD_eq_getElem?_getD,Aaz,e1,List.length_append]))
      · have e:i=es.length:=by omega
        subst e
        (repeat' (first
 | (first|refine Ahz ?_|refine Abz ?_)
 | ((first|refine Aiz ?_|refine Afz ?_|refine A7z ?_);simp (disch:=omega) only [push_cast,seval,l36r0,l36r1,l36r2,l36r3,l36r4,l36r5,l36r6,l36r7,l36r8,l36r9,hel,Aaz])
 | ((first|refine Amz (fun h=>?_) (fun h=>?_))<;>(try simp only [h])<;>(try simp only [bitvec_to_nat] at h)<;>(try simp only [h])<;>(first|(exfalso;omega)|(exfalso;simp_all;done)|(simp (disch:=omega) only [push_cast,seval,hel,Aaz])|skip))
 | (refine Adz ⟨.inr rfl,[128],[],_,by decide,rfl,?_⟩;(try simp (disch:=omega) only [push_cast,seval,↓Aez,↓Acz,↓List.map_cons,↓List.map_nil,hel,Aaz]))))
        all_goals simp [OI]

end Go.Proofs.YtfccepgibbdfaaaDoor
namespace Go.Proofs.YtfccepgibbdfaaaDoor
open VwM Vw Go
variable [PowA]

end Go.Proofs.YtfccepgibbdfaaaDoor
namespace Go.Proofs.YtfccepgibbdfaaaDoor
open VwM Vw Go
variable [PowA]

def opA (es:List Ex) (id:Int):Bool:=(decide (0 ≤ id) && decide (id ≤ (es.length:Int) - 1)) && (match es[id.toNat]? with|some e=>e.2.2|none=>false)
def vwA (es:List Ex) (id:Int):Vw3:=(es.getD id.toNat (0,(0,[],[]),false)).2.1
theorem Foz {es:List Ex} {id:Int} (h:opA es id=true):∃ (q:Nat) (p b:Int) (x y:List Int),id=q ∧ q < es.length ∧ es[q]?=some (p,(b,x,y),true) ∧ vwA es id=(b,x,y):=by
  unfold opA at h
  simp only [Bool.and_eq_true,decide_eq_true_eq] at h
  obtain ⟨⟨h1,h2⟩,h3⟩:=h
  obtain ⟨q,rfl⟩:∃ q:Nat,id=q:=⟨id.toNat,by omega⟩
  obtain ⟨p,b,x,y,o,he⟩:=Elz (es:=es) (i:=q) (by omega)
  simp only [Int.toNat_natCast,he] at h3
  subst h3
  exact ⟨q,p,b,x,y,rfl,by omega,he,by simp [vwA,List.getD,he]⟩
theorem vB_see {cs:List Int} {es:List Ex} {q:Nat} {p b:Int} {x y:List Int} (h:vB cs es=true) (he:es[q]?=some (p,(b,x,y),true)):seeB cs b x y=true:=by
  unfold vB at h
  simp only [Bool.and_eq_true,decide_eq_true_eq] at h
  obtain ⟨⟨h1,h2⟩,h3⟩:=h
  have hi:q < es.length:=(List.getElem?_eq_some_iff.1 he).1
  have:=(Eaz (f:=sxV cs.length es)).1 h3 q _ hi he
  unfold sxV exV at this
  simp only [Bool.and_eq_true,Bool.not_true,Bool.false_or] at this
  unfold seeB
  simp only [Bool.and_eq_true]
  exact ⟨⟨h1,this.1.1.2⟩,this.1.2⟩
theorem see_prX {mem:List Int} {b:Int} {sh st:List Int} (h:seeB mem b sh st=true):(offs b sh st).length ≤ 60 ∧ mem.length ≤ 60:=by
  obtain ⟨_,_,_,f4,f5,f6⟩:=C5z h
  have:=Bkz b sh st
  omega
set_option maxHeartbeats 8000000 in
theorem Blz (cs:List Int) (es:List Ex) (m n:Nat) (id:Int) (hm:cs.length=m) (hn:es.length=n) (hb:m ≤ 1099511627776 ∧ n ≤ 1099511627776) :
    PCall Tryd.prog 47 [.agg [.rows false (IL cs) m,.rows false (EL false es) n],.int .i64 id] (fun r=>r=.bool (opA es id)):=by
  subst hm hn
  obtain ⟨hb1,hb2⟩:=hb
  have hel:=A0z false es
  refine A1z l47_eq rfl ?_
  unfold opA
  by_cases hr:0 ≤ id ∧ id ≤ (es.length:Int) - 1
  · have hrd:(decide (0 ≤ id) && decide (id ≤ (es.length:Int) - 1))=true:=by rw [Bool.and_eq_true,decide_eq_true_eq,decide_eq_true_eq];exact hr
    rw [hrd]
    obtain ⟨q,rfl⟩:∃ q:Nat,id=q:=⟨id.toNat,by omega⟩
    obtain ⟨p,b,x,y,o,he⟩:=Elz (es:=es) (i:=q) (by omega)
    have hd:=Crz false es q he
    simp only at hd
    have hil:q * 5 + 5 ≤ es.length * 5:=by omega
    have h4:((EL false es).drop (q * 5 + 4)).take 1=[.bool o]:=by
      have:=congrArg (fun l=>(l.drop 4).take 1) hd
      simpa [List.drop_take,List.drop_drop,List.take_take] using this
    simp only [Int.toNat_natCast,he]
    (repeat' (first
 | (first|refine Ahz ?_|refine Abz ?_)
 | ((first|refine Aiz ?_);simp (disch:=omega) only [push_cast,seval,l47r0,l47r1,h4,hel,hil,hrd,Aaz])
 | ((first|refine Alz false ?_);simp (disch:=omega) only [push_cast,seval,h4,hel,hil,hrd,Aaz])
 | ((first|((first|refine Akz (Ajz (Apz _ _ _)) ?_|refine Agz (Ajz (Apz _ _ _)) ⟨_,_,rfl,rfl⟩ ?_);rintro _ _ ⟨rfl,rfl⟩))<;>(try simp (disch:=omega) only [push_cast,seval,h4,hel,hil,hrd,Aaz]))
 | (refine Adz ⟨.inr rfl,_,rfl,?_⟩;(try simp (disch:=omega) only [push_cast,seval,h4,hel,hil,hrd,Aaz]))))
    all_goals (try simp)
  · have hrd:(decide (0 ≤ id) && decide (id ≤ (es.length:Int) - 1))=false:=by rw [Bool.eq_false_iff];intro h;simp at h;omega
    rw [hrd]
    (repeat' (first
 | (first|refine Ahz ?_|refine Abz ?_)
 | ((first|refine Aiz ?_);simp (disch:=omega) only [push_cast,seval,l47r0,l47r1,hel,hrd,Aaz])
 | ((first|refine Alz false ?_);simp (disch:=omega) only [push_cast,seval,hel,hrd,Aaz])
 | ((first|((first|refine Akz (Ajz (Apz _ _ _)) ?_|refine Agz (Ajz (Apz _ _ _)) ⟨_,_,rfl,rfl⟩ ?_);rintro _ _ ⟨rfl,rfl⟩))<;>(try simp (disch:=omega) only [push_cast,seval,hel,hrd,Aaz]))
 | (refine Adz ⟨.inr rfl,_,rfl,?_⟩;(try simp (disch:=omega) only [push_cast,seval,hel,hrd,Aaz]))))
    all_goals (try simp)

end Go.Proofs.YtfccepgibbdfaaaDoor
