/- Texts of this verifier. -/
import Derived.Test.YtfccepgibbdfaaaDoorCB1
import Derived.Test.YtfccepgibbdfaaaDoorCM1
import Derived.Test.YtfccepgibbdfaaaDoorCW3
set_option maxHeartbeats 4000000
set_option linter.unusedSimpArgs false
set_option linter.unusedSectionVars false
set_option linter.unusedVariables false
set_option maxRecDepth 4000
namespace Go.Proofs.YtfccepgibbdfaaaDoor
open VwM Vw Go
variable [PowA]

theorem newReader_ok (bs:List Int) (n:Nat) (hn:bs.length=n) (hb:n ≤ 1099511627776 ∧ ∀ x ∈ bs,0 ≤ x ∧ x ≤ 255):BCall Tryd.prog 20 [.rows false (UL bs) n] [] (fun r H'=>∃ bs',okB bs' ∧ r=.ref 0 2 0 ∧ H'=[RD bs' 0]):=by
  subst hn
  obtain ⟨hb0,hb⟩:=hb
  refine Axz (pins:=[]) (pin:=0) l20_eq rfl rfl rfl ?_
  by_cases h:bs.length > 2000
  · have h':(bs.length:Int) > 2000:=by omega
    have ht:(bs.take 2000).length=2000:=by simp;omega
    have eT:(UL bs).take 2000=UL (bs.take 2000):=List.map_take.symm
    (repeat' (first
 | (first|refine Ahz ?_|refine Abz ?_)
 | ((first|refine Aiz ?_|refine Afz ?_);simp (disch:=omega) only [push_cast,seval,l20r0,l20r1,l20r2,l20r3,h',eT])
 | (refine Adz ⟨.inr rfl,[160],[],_,by decide,rfl,?_⟩;(try simp (disch:=omega) only [push_cast,seval,↓Aez,↓Acz,↓List.map_cons,↓List.map_nil,h',eT]))))
    exact ⟨bs.take 2000,⟨by omega,fun x hx=>hb x (List.mem_of_mem_take hx)⟩,by rw [RD,ht]⟩
  · have h':¬ (bs.length:Int) > 2000:=by omega
    (repeat' (first
 | (first|refine Ahz ?_|refine Abz ?_)
 | ((first|refine Aiz ?_|refine Afz ?_|refine Aoz ?_);simp (disch:=omega) only [push_cast,seval,l20r0,l20r1,l20r2,l20r3,h'])
 | (refine Adz ⟨.inr rfl,[160],[],_,by decide,rfl,?_⟩;(try simp (disch:=omega) only [push_cast,seval,↓Aez,↓Acz,↓List.map_cons,↓List.map_nil,h']))))
    exact ⟨bs,⟨by omega,hb⟩,rfl⟩


theorem Gfz (bs:List Int) (p n:Int) (hb:okB bs) (hp:0 ≤ p ∧ p ≤ 1000000):BCall Tryd.prog 31 [.ref 0 2 0,.int .i64 n] [RD bs p] (fun r H'=>∃ x,0 ≤ x ∧ (1 ≤ n ∧ x < n ∨ n < 1 ∧ x=0 ∨ x=0) ∧ r=.int .i64 x ∧ H'=[RD bs (p + 1)]):=by
  refine Axz (pins:=[0]) (pin:=1) l31_eq rfl rfl rfl ?_
  obtain ⟨hp1,hp2⟩:=hp
  have hbl:=hb.1
  have ep:p + 1 - 1=p:=by omega
  by_cases h1:n < 1
  · (repeat' (first
 | (first|refine Ahz ?_|refine Abz ?_)
 | ((first|refine Aiz ?_|refine Afz ?_);simp (disch:=omega) only [push_cast,seval,l31r0,l31r1,l31r2,l31r3,l31r4,l31r5,l31r6,l31r7a,l31r7b,l31r7,l31r8,l31r9,h1])
 | (refine Adz ⟨.inr rfl,[],[],_,by decide,rfl,?_⟩;(try simp (disch:=omega) only [push_cast,seval,↓Aez,↓Acz,↓List.map_cons,↓List.map_nil,h1]))))
    exact ⟨0,by omega,by omega,rfl⟩
  by_cases h2:bs.length=0
  · have h2':(bs.length:Int)=0:=by omega
    (repeat' (first
 | (first|refine Ahz ?_|refine Abz ?_)
 | ((first|refine Aiz ?_|refine Afz ?_);simp (disch:=omega) only [push_cast,seval,l31r0,l31r1,l31r2,l31r3,l31r4,l31r5,l31r6,l31r7a,l31r7b,l31r7,l31r8,l31r9,h1,h2'])
 | (refine Adz ⟨.inr rfl,[],[],_,by decide,rfl,?_⟩;(try simp (disch:=omega) only [push_cast,seval,↓Aez,↓Acz,↓List.map_cons,↓List.map_nil,h1,h2']))))
    exact ⟨0,by omega,by omega,rfl⟩
  have h2':¬ (bs.length:Int)=0:=by omega
  have hn0:¬ n=0:=by omega
  by_cases h3:p < bs.length
  · have hb1:=okB_at hb (i:=p.toNat) (by omega)
    have hw:=H3z hb1.1 (by omega)
    (repeat' (first
 | (first|refine Ahz ?_|refine Abz ?_)
 | ((first|refine Aiz ?_|refine Afz ?_|refine Aoz ?_);simp (disch:=omega) only [push_cast,seval,l31r0,l31r1,l31r2,l31r3,l31r4,l31r5,l31r6,l31r7a,l31r7b,l31r7,l31r8,l31r9,ep,h1,h2',h3,hn0,hw])
 | (refine Adz ⟨.inr rfl,[],[],_,by decide,rfl,?_⟩;(try simp (disch:=omega) only [push_cast,seval,↓Aez,↓Acz,↓List.map_cons,↓List.map_nil,ep,h1,h2',h3,hn0,hw]))))
    have:=Clz hb1.1 (n:=n) (by omega)
    exact ⟨_,this.1,by omega,rfl⟩
  · have q1:=Clz hp1 (n:=(bs.length:Int)) (by omega)
    have q2:=Clz (x:=p * 7 + 3) (n:=(bs.length:Int)) (by omega) (by omega)
    have q3:=C3z (x:=p) (y:=(bs.length:Int)) (by omega) hp1
    generalize hg1:p.tmod (bs.length:Int)=k1 at *
    generalize hg2:(p * 7 + 3).tmod (bs.length:Int)=k2 at *
    generalize hg3:p.tdiv (bs.length:Int)=k3 at *
    have b1:=okB_at hb (i:=k1.toNat) (by omega)
    have b2:=okB_at hb (i:=k2.toNat) (by omega)
    have hw1:=H3z b1.1 (by omega)
    have hw2:=H3z b2.1 (by omega)
    generalize hd1:bs.getD k1.toNat 0=d1 at *
    generalize hd2:bs.getD k2.toNat 0=d2 at *
    have hX:0 ≤ d1 * 131 + d2 * 1117 + p * 29 + k3 * 53 ∧ d1 * 131 + d2 * 1117 + p * 29 + k3 * 53 < 1099511627776:=by omega
    have q4:=C3z (x:=d1 * 131 + d2 * 1117 + p * 29 + k3 * 53) (y:=64) (by omega) hX.1
    have q5:=xor_bound hX (b:=(d1 * 131 + d2 * 1117 + p * 29 + k3 * 53).tdiv 64) (by omega)
    have q6:=Clz q5.1 (n:=n) (by omega)
    (repeat' (first
 | (first|refine Ahz ?_|refine Abz ?_)
 | ((first|refine Aiz ?_|refine Avz (mid:=l31r7a) (post:=l31r7b) Baz (by decide) ?_|refine Afz ?_|refine Aoz ?_);simp (disch:=omega) only [push_cast,seval,l31r0,l31r1,l31r2,l31r3,l31r4,l31r5,l31r6,l31r7a,l31r7b,l31r7,l31r8,l31r9,ep,h1,h2',h3,hn0,hg1,hg2,hg3,hd1,hd2,hw1,hw2])
 | (refine Adz ⟨.inr rfl,[],[],_,by decide,rfl,?_⟩;(try simp (disch:=omega) only [push_cast,seval,↓Aez,↓Acz,↓List.map_cons,↓List.map_nil,ep,h1,h2',h3,hn0,hg1,hg2,hg3,hd1,hd2,hw1,hw2]))))
    exact ⟨_,q6.1,by omega,rfl⟩


theorem Cpz (bs:List Int) (p:Int) (cs:List AV) (n:Nat) (hn:(unI cs).length=n) (hcs:cs=IL (unI cs)) (hb:okB bs) (h1:1 ≤ n ∧ n ≤ 1000 ∧ 0 ≤ p ∧ p ≤ 1000000) (hxs:∀ y ∈ unI cs,-1000 ≤ y ∧ y ≤ 1000):BCall Tryd.prog 32 [.ref 0 2 0,.own 1 n 1] [RD bs p,cs] (fun r H'=>∃ x,x ∈ unI cs ∧ (-1000 ≤ x ∧ x ≤ 1000) ∧ r=.int .i64 x ∧ H'=[RD bs (p + 1),cs]):=by
  subst hn
  generalize hxs':unI cs=xs at *
  subst hcs
  obtain ⟨h1,h2,h3⟩:=h1
  refine Axz (pins:=[0,1]) (pin:=2) l32_eq rfl rfl rfl ?_
  (repeat' (first
 | (first|refine Ahz ?_|refine Abz ?_)
 | ((first|refine Aiz ?_);simp (disch:=omega) only [push_cast,seval,l32r0,l32r1])
 | ((first|((with_reducible refine Ayz (f:=31) [0] true ?_);simp (disch:=omega) only [push_cast,seval];(refine H0z (id:=0) (Gfz _ _ _ ?_ ?_) (by (simp (disch:=omega) only [push_cast,seval])<;>rfl) ?_;(iterate 2 (exact sd));rintro _ _ ⟨x,hx0,hx1,rfl,rfl⟩)))<;>(try simp (disch:=omega) only [push_cast,seval]))
 | (refine Adz ⟨.inr rfl,[],[],_,by decide,rfl,?_⟩;(try simp (disch:=omega) only [push_cast,seval,↓Aez,↓Acz,↓List.map_cons,↓List.map_nil]))))
  have hm:=Cuz (xs:=xs) (j:=x.toNat) (by omega)
  exact ⟨_,hm,hxs _ hm,rfl⟩
theorem oneR_ok (bs:List Int) (p:Int) (cs:List AV) (n:Nat) (hn:(unI cs).length=n) (hcs:cs=IL (unI cs)) (hb:okB bs) (h1:1 ≤ n ∧ n ≤ 1000 ∧ 0 ≤ p ∧ p ≤ 1000000) (hxs:∀ y ∈ unI cs,-1000 ≤ y ∧ y ≤ 1000):BCall Tryd.prog 32 [.ref 0 2 0,.rows false cs n] [RD bs p] (fun r H'=>∃ x,x ∈ unI cs ∧ (-1000 ≤ x ∧ x ≤ 1000) ∧ r=.int .i64 x ∧ H'=[RD bs (p + 1)]):=by
  subst hn
  generalize hxs':unI cs=xs at *
  subst hcs
  obtain ⟨h1,h2,h3⟩:=h1
  refine Axz (pins:=[0]) (pin:=1) l32_eq rfl rfl rfl ?_
  (repeat' (first
 | (first|refine Ahz ?_|refine Abz ?_)
 | ((first|refine Aiz ?_);simp (disch:=omega) only [push_cast,seval,l32r0,l32r1])
 | ((first|((with_reducible refine Ayz (f:=31) [0] true ?_);simp (disch:=omega) only [push_cast,seval];(refine H0z (id:=0) (Gfz _ _ _ ?_ ?_) (by (simp (disch:=omega) only [push_cast,seval])<;>rfl) ?_;(iterate 2 (exact sd));rintro _ _ ⟨x,hx0,hx1,rfl,rfl⟩)))<;>(try simp (disch:=omega) only [push_cast,seval]))
 | (refine Adz ⟨.inr rfl,[],[],_,by decide,rfl,?_⟩;(try simp (disch:=omega) only [push_cast,seval,↓Aez,↓Acz,↓List.map_cons,↓List.map_nil]))))
  have hm:=Cuz (xs:=xs) (j:=x.toNat) (by omega)
  exact ⟨_,hm,hxs _ hm,rfl⟩

end Go.Proofs.YtfccepgibbdfaaaDoor
namespace Go.Proofs.YtfccepgibbdfaaaDoor
open VwM Vw Go
variable [PowA]

theorem C4z (b:Int) (sh st:List Int) (n m:Nat) (d:Int) (hn:sh.length=n) (hb:n ≤ 1099511627776):PCall Tryd.prog 74 [.agg [.int .i64 b,.rows false (IL sh) n,.rows false (IL st) m],.int .i64 d] (fun r=>r=.bool (decide (0 ≤ d) && decide (d ≤ (n:Int) - 1))):=by
  subst hn
  refine A1z l74_eq rfl ?_
  (repeat' (first
 | (first|refine Ahz ?_|refine Abz ?_)
 | ((first|refine Aiz ?_);simp (disch:=omega) only [push_cast,seval,l74r0,l74r1])
 | ((first|refine Alz false ?_);simp (disch:=omega) only [push_cast,seval])
 | ((first|((first|refine Akz (Ajz (Apz _ _ _)) ?_|refine Agz (Ajz (Apz _ _ _)) ⟨_,_,rfl,rfl⟩ ?_);rintro _ _ ⟨rfl,rfl⟩))<;>(try simp (disch:=omega) only [push_cast,seval]))
 | (refine Adz ⟨.inr rfl,_,rfl,?_⟩;(try simp (disch:=omega) only [push_cast,seval]))))


theorem A9z (b:Int) (sh st:List Int) (n m:Nat) (hn:sh.length=n) (hm:st.length=m) (hb:n ≤ 1099511627776 ∧ m ≤ 1099511627776):BCall Tryd.prog 72 [.agg [.int .i64 b,.rows false (IL sh) n,.rows false (IL st) m]] [] (OV b sh st):=by
  subst hn hm
  obtain ⟨hb1,hb2⟩:=hb
  refine Axz (pins:=[]) (pin:=0) l72_eq rfl rfl rfl ?_
  (repeat' (first
 | (first|refine Ahz ?_|refine Abz ?_)
 | ((first|refine Aiz ?_|refine Avz (mid:=l72r1a) (post:=l72r1b) Baz (by decide) ?_);simp (disch:=omega) only [push_cast,seval,l72r0,l72r1a,l72r1b,l72r1])
 | ((first|refine Atz false ?_);simp (disch:=omega) only [push_cast,seval])
 | ((first|((first|refine Akz (B1z _ _ ?_ ?_) ?_|refine Agz (B1z _ _ ?_ ?_) ⟨_,_,rfl,rfl⟩ ?_);(iterate 2 (exact sd));rintro _ _ ⟨rfl,rfl⟩))<;>(try simp (disch:=omega) only [push_cast,seval]))
 | (refine Adz ⟨.inr rfl,[112,160],[],_,by decide,rfl,?_⟩;(try simp (disch:=omega) only [push_cast,seval,↓Aez,↓Acz,↓List.map_cons,↓List.map_nil]))))
  all_goals simp [OV]


theorem smade_ok (b:Int) (sh st:List Int) (n m:Nat) (hn:sh.length=n) (hm:st.length=m) (hb:n ≤ 1099511627776 ∧ m ≤ 1099511627776):BCall Tryd.prog 76 [.agg [.int .i64 b,.rows false (IL sh) n,.rows false (IL st) m]] [] (MV (vV b sh st) b sh st):=by
  subst hn hm
  obtain ⟨hb1,hb2⟩:=hb
  refine Axz (pins:=[]) (pin:=0) l76_eq rfl rfl rfl ?_
  cases hv:vV b sh st with
  | false =>
    (repeat' (first
 | (first|refine Ahz ?_|refine Abz ?_)
 | ((first|refine Aiz ?_|refine Afz ?_);simp (disch:=omega) only [push_cast,seval,l76r0,l76r1,l76r2,l76r3,hv])
 | ((first|refine Alz false ?_);simp (disch:=omega) only [push_cast,seval,hv])
 | ((first|((first|refine Akz (Ajz (Aqz _ _ _ _ _ ?_ ?_ ?_)) ?_|refine Agz (Ajz (Aqz _ _ _ _ _ ?_ ?_ ?_)) ⟨_,_,rfl,rfl⟩ ?_);(iterate 3 (exact sd));rintro _ _ ⟨rfl,rfl⟩))<;>(try simp (disch:=omega) only [push_cast,seval,hv]))
 | (refine Adz ⟨.inr rfl,[16000,16016],[(16000,1),(16016,1)],_,by decide,rfl,?_⟩;(try simp (disch:=omega) only [push_cast,seval,↓Aez,↓Acz,↓List.map_cons,↓List.map_nil,hv]))))
    all_goals simp [MV,MVB,MVL]
  | true =>
    (repeat' (first
 | (first|refine Ahz ?_|refine Abz ?_)
 | ((first|refine Aiz ?_|refine Afz ?_|refine Aoz ?_);simp (disch:=omega) only [push_cast,seval,l76r0,l76r1,l76r2,l76r3,hv])
 | ((first|refine Alz false ?_);simp (disch:=omega) only [push_cast,seval,hv])
 | ((first|((first|refine Akz (Ajz (Aqz _ _ _ _ _ ?_ ?_ ?_)) ?_|refine Agz (Ajz (Aqz _ _ _ _ _ ?_ ?_ ?_)) ⟨_,_,rfl,rfl⟩ ?_);(iterate 3 (exact sd));rintro _ _ ⟨rfl,rfl⟩)|((first|refine Akz (A9z _ _ _ _ _ ?_ ?_ ?_) ?_|refine Agz (A9z _ _ _ _ _ ?_ ?_ ?_) ⟨_,_,rfl,rfl⟩ ?_);(iterate 3 (exact sd));rintro _ _ ⟨rfl,rfl⟩))<;>(try simp (disch:=omega) only [push_cast,seval,hv]))
 | (refine Adz ⟨.inr rfl,[144,145],[],_,by decide,rfl,?_⟩;(try simp (disch:=omega) only [push_cast,seval,↓Aez,↓Acz,↓List.map_cons,↓List.map_nil,hv]))))
    all_goals simp [MV,MVB,MVL]


theorem stidy0_ok (b:Int) (sh st:List Int) (n m:Nat) (hn:sh.length=n) (hm:st.length=m) (hb:good4 sh ∧ pr sh=0):BCall Tryd.prog 86 [.agg [.int .i64 b,.own 0 n 1,.own 1 m 1]] [IL sh,IL st] (fun r H'=>r=.agg [.int .i64 0,.own 0 n 1,.own 2 n 1] ∧ H'=[IL sh,IL st,IL (List.replicate n 0)]):=by
  subst hn hm
  obtain ⟨hg,hz⟩:=hb
  have hl:=hg.2
  refine Axz (pins:=[0,1]) (pin:=2) l86_eq rfl rfl rfl ?_
  (repeat' (first
 | (first|refine Ahz ?_|refine Abz ?_)
 | ((first|refine Aiz ?_|refine Avz (mid:=l86r2a) (post:=l86r2b) Baz (by decide) ?_|refine Afz ?_);simp (disch:=omega) only [push_cast,seval,l86r0,l86r1,l86r2a,l86r2b,l86r2,l86r3,hz])
 | ((first|refine Alz false ?_);simp (disch:=omega) only [push_cast,seval,hz])
 | ((first|((first|refine Akz (Ajz (Bnz _ _ ?_ ?_)) ?_|refine Agz (Ajz (Bnz _ _ ?_ ?_)) ⟨_,_,rfl,rfl⟩ ?_);(iterate 2 (exact sd));rintro _ _ ⟨rfl,rfl⟩))<;>(try simp (disch:=omega) only [push_cast,seval,hz]))
 | (refine Adz ⟨.inr rfl,[192],[],_,by decide,rfl,?_⟩;(try simp (disch:=omega) only [push_cast,seval,↓Aez,↓Acz,↓List.map_cons,↓List.map_nil,hz]))))
  all_goals simp [IL]
theorem stidy1_ok (b:Int) (sh st:List Int) (n m:Nat) (hn:sh.length=n) (hm:st.length=m) (hb:good4 sh ∧ ¬ pr sh=0):BCall Tryd.prog 86 [.agg [.int .i64 b,.own 0 n 1,.own 1 m 1]] [IL sh,IL st] (fun r H'=>r=.agg [.int .i64 b,.own 0 n 1,.own 1 m 1] ∧ H'=[IL sh,IL st]):=by
  subst hn hm
  obtain ⟨hg,hz⟩:=hb
  have hl:=hg.2
  refine Axz (pins:=[0,1]) (pin:=2) l86_eq rfl rfl rfl ?_
  (repeat' (first
 | (first|refine Ahz ?_|refine Abz ?_)
 | ((first|refine Aiz ?_|refine Afz ?_|refine Aoz ?_);simp (disch:=omega) only [push_cast,seval,l86r0,l86r1,l86r2a,l86r2b,l86r2,l86r3,hz])
 | ((first|refine Alz false ?_);simp (disch:=omega) only [push_cast,seval,hz])
 | ((first|((first|refine Akz (Ajz (Bnz _ _ ?_ ?_)) ?_|refine Agz (Ajz (Bnz _ _ ?_ ?_)) ⟨_,_,rfl,rfl⟩ ?_);(iterate 2 (exact sd));rintro _ _ ⟨rfl,rfl⟩))<;>(try simp (disch:=omega) only [push_cast,seval,hz]))
 | (refine Adz ⟨.inr rfl,[],[],_,by decide,rfl,?_⟩;(try simp (disch:=omega) only [push_cast,seval,↓Aez,↓Acz,↓List.map_cons,↓List.map_nil,hz]))))

end Go.Proofs.YtfccepgibbdfaaaDoor
namespace Go.Proofs.YtfccepgibbdfaaaDoor
open VwM Vw Go
variable [PowA]

/-- Facts of a slice of a dimension,for the walks. -/
theorem cut_facts {b:Int} {sh st:List Int} {j:Nat} {f t w:Int} {hf ht:Bool} (hv:vV b sh st=true) (hj:j < sh.length) (hs:vS f t w hf ht=true) :
    (0 ≤ sh.getD j 0 ∧ sh.getD j 0 ≤ 60) ∧
    vR (pS (sFrom f (sh.getD j 0) w hf) (cutK (sh.getD j 0) f t w hf ht)) (pE (sFrom f (sh.getD j 0) w hf) w (cutK (sh.getD j 0) f t w hf ht)) (pC w (cutK (sh.getD j 0) f t w hf ht))=true ∧
    cntN (pS (sFrom f (sh.getD j 0) w hf) (cutK (sh.getD j 0) f t w hf ht)) (pE (sFrom f (sh.getD j 0) w hf) w (cutK (sh.getD j 0) f t w hf ht)) (pC w (cutK (sh.getD j 0) f t w hf ht))=cutK (sh.getD j 0) f t w hf ht ∧
    (-12000 ≤ pS (sFrom f (sh.getD j 0) w hf) (cutK (sh.getD j 0) f t w hf ht) * st.getD j 0 ∧ pS (sFrom f (sh.getD j 0) w hf) (cutK (sh.getD j 0) f t w hf ht) * st.getD j 0 ≤ 12000) ∧
    (-12000 ≤ pC w (cutK (sh.getD j 0) f t w hf ht) * st.getD j 0 ∧ pC w (cutK (sh.getD j 0) f t w hf ht) * st.getD j 0 ≤ 12000) ∧
    (∀ i:Nat,i < cutK (sh.getD j 0) f t w hf ht → -1000 ≤ sFrom f (sh.getD j 0) w hf + (i:Int) * w ∧ sFrom f (sh.getD j 0) w hf + (i:Int) * w ≤ 1000) ∧
    (cutK (sh.getD j 0) f t w hf ht:Int) ≤ 60:=by
  obtain ⟨h1,h2,h3,-⟩:=B3z.1 hv
  have hg:=(Cez h1).1
  have hn:=Dgz hg hj
  have hw:=H5z.1 hs
  have hk:=cutK_le hn hs
  have hin:=fun i hi=>idx_in hn hs (i:=i) hi
  have hst:=vSt_at h2 hj
  have hb:∀ i:Nat,i < cutK (sh.getD j 0) f t w hf ht → -100 ≤ sFrom f (sh.getD j 0) w hf + (i:Int) * w ∧ sFrom f (sh.getD j 0) w hf + (i:Int) * w ≤ 100:=fun i hi=>by have:=hin i hi;omega
  have v1:=PR_valid (s:=sFrom f (sh.getD j 0) w hf) hw.2.2.2.1 hw.2.2.1 hb
  have v2:=cntN_PR (s:=sFrom f (sh.getD j 0) w hf) hw.2.2.2.1 hw.2.2.1 hb
  have v3:=Dmz.1 v1
  have m1:=mul_bd (p:=100) (q:=60) (x:=pS (sFrom f (sh.getD j 0) w hf) (cutK (sh.getD j 0) f t w hf ht)) (y:=st.getD j 0) (by omega) (by omega)
  have m2:=mul_bd (p:=200) (q:=60) (x:=pC w (cutK (sh.getD j 0) f t w hf ht)) (y:=st.getD j 0) (by omega) (by omega)
  exact ⟨hn,v1,v2,by omega,by omega,fun i hi=>by have:=hb i hi;omega,by omega⟩


set_option maxHeartbeats 16000000 in
theorem Hhz (b:Int) (sh st:List Int) (n m:Nat) (j:Nat) (f t w:Int) (hf ht:Bool) (hn:sh.length=n) (hm:st.length=m) (hb:vV b sh st=true ∧ j < n) (hs:vS f t w hf ht=true) :
    BCall Tryd.prog 77 [.agg [.int .i64 b,.rows false (IL sh) n,.rows false (IL st) m],.int .i64 j,slc f t w hf ht] [] (OV (cutB b sh st j f t w hf ht) (cutSh sh j f t w hf ht) (cutSt sh st j f t w hf ht)):=by
  subst hn hm
  obtain ⟨hv,hj⟩:=hb
  obtain ⟨c1,c2,c3,c4,c5,c6,c7⟩:=cut_facts hv hj hs
  obtain ⟨hok,hl⟩:=Cqz hv
  have hl4:=hok.1.1.2
  have hbb:=(B3z.1 hv).2.2.1
  have hg:=good4_cut hok.1.1 hj hs
  have hle:(sh.length ≤ 1099511627776 ∧ st.length ≤ 1099511627776):=by omega
  have q1:cutK (sh.getD j 0) f t w hf ht ≤ 1000:=by omega
  have hj2:j < st.length:=by omega
  have hsl:(sh.set j (cutK (sh.getD j 0) f t w hf ht:Int)).length=sh.length:=by simp
  have hK:cntN (sFrom f (sh.getD j 0) w hf) (sTo t (sh.getD j 0) w ht) w=cutK (sh.getD j 0) f t w hf ht:=rfl
  refine Axz (pins:=[]) (pin:=0) l77_eq rfl rfl rfl ?_
  by_cases hz:pr (cutSh sh j f t w hf ht)=0
  · have e1:cutB b sh st j f t w hf ht=0:=if_pos hz
    have e2:cutSt sh st j f t w hf ht=List.replicate sh.length 0:=if_pos hz
    rw [e1,e2]
    unfold cutSh at hz hg ⊢
    generalize hkk:cutK (sh.getD j 0) f t w hf ht=k at *
    have hzg:=And.intro hg hz
    by_cases hk1:(k:Int) ≤ 1
    · (repeat' (first
 | (first|refine Ahz ?_|refine Abz ?_)
 | ((first|refine Aiz ?_|refine Avz (mid:=l77r2a) (post:=l77r2b) Baz (by decide) ?_|refine Avz (mid:=l77r5a) (post:=l77r5b) Baz (by decide) ?_|refine Avz (mid:=l77r6a) (post:=l77r6b) Baz (by decide) ?_|refine Afz ?_);simp (disch:=omega) only [push_cast,seval,l77r0,l77r1,l77r2a,l77r2b,l77r2,l77r3,l77r4,l77r5a,l77r5b,l77r5,l77r6a,l77r6b,l77r6,l77r7,l77r8,l77r9,hK,c3,hk1,Bgz,List.length_set,List.set_set])
 | ((first|((with_reducible refine Ayz (f:=86) [176,177] false ?_);simp (disch:=omega) only [push_cast,seval,hK,c3,hk1,Bgz,List.length_set,List.set_set];(refine B6z (id:=176) (id':=177) (by decide) (stidy0_ok _ _ _ _ _ ?_ ?_ ?_) (by (simp (disch:=omega) only [push_cast,seval,hK,c3,hk1,Bgz,List.length_set,List.set_set])<;>rfl) (by (simp (disch:=omega) only [push_cast,seval,hK,c3,hk1,Bgz,List.length_set,List.set_set])<;>rfl) ?_;(iterate 3 (exact sd));rintro _ _ ⟨rfl,rfl⟩)))<;>(try simp (disch:=omega) only [push_cast,seval,hK,c3,hk1,Bgz,List.length_set,List.set_set]))
 | ((first|refine Alz false ?_|refine Atz false ?_);simp (disch:=omega) only [push_cast,seval,hK,c3,hk1,Bgz,List.length_set,List.set_set])
 | ((first|((first|refine Akz (A9z _ _ _ _ _ ?_ ?_ ?_) ?_|refine Agz (Ajz (plainV (A9z _ _ _ _ _ ?_ ?_ ?_))) ⟨_,_,rfl,rfl⟩ ?_);(iterate 3 (exact sd));rintro _ _ ⟨rfl,rfl⟩)|((first|refine Akz (Bzz _ _ _ _ _ _ ?_ ?_) ?_|refine Agz (Ajz (Efz (Bzz _ _ _ _ _ _ ?_ ?_))) ⟨_,_,rfl,rfl⟩ ?_);(iterate 2 (exact sd));rintro _ _ ⟨rfl,rfl⟩)|((first|refine Akz (Ajz (Bcz _ _ _ ?_ ?_)) ?_|refine Agz (Ajz (Bcz _ _ _ ?_ ?_)) ⟨_,_,rfl,rfl⟩ ?_);(iterate 2 (exact sd));rintro _ _ ⟨rfl,rfl⟩)|((first|refine Akz (Ajz (Bcz _ _ _ ?_ ?_)) ?_|refine Agz (Ajz (Bcz _ _ _ ?_ ?_)) ⟨_,_,rfl,rfl⟩ ?_);(iterate 2 (exact sd));rintro _ _ ⟨rfl,rfl⟩)|((first|refine Akz (Brz _ _ _ ?_) ?_|refine Agz (Ajz (Efz (Brz _ _ _ ?_))) ⟨_,_,rfl,rfl⟩ ?_);(exact sd);rintro _ _ ⟨rfl,rfl⟩))<;>(try simp (disch:=omega) only [push_cast,seval,hK,c3,hk1,Bgz,List.length_set,List.set_set]))
 | (refine Adz ⟨.inr rfl,[176,960],[],_,by decide,rfl,?_⟩;(try simp (disch:=omega) only [push_cast,seval,↓Aez,↓Acz,↓List.map_cons,↓List.map_nil,hK,c3,hk1,Bgz,List.length_set,List.set_set]))))
      all_goals (try (simp [OV];done))
    · (repeat' (first
 | (first|refine Ahz ?_|refine Abz ?_)
 | ((first|refine Aiz ?_|refine Avz (mid:=l77r2a) (post:=l77r2b) Baz (by decide) ?_|refine Avz (mid:=l77r5a) (post:=l77r5b) Baz (by decide) ?_|refine Avz (mid:=l77r6a) (post:=l77r6b) Baz (by decide) ?_|refine Afz ?_|refine Aoz ?_);simp (disch:=omega) only [push_cast,seval,l77r0,l77r1,l77r2a,l77r2b,l77r2,l77r3,l77r4,l77r5a,l77r5b,l77r5,l77r6a,l77r6b,l77r6,l77r7,l77r8,l77r9,hK,c3,hk1,Bgz,List.length_set,List.set_set])
 | ((first|((with_reducible refine Ayz (f:=86) [176,177] false ?_);simp (disch:=omega) only [push_cast,seval,hK,c3,hk1,Bgz,List.length_set,List.set_set];(refine B6z (id:=176) (id':=177) (by decide) (stidy0_ok _ _ _ _ _ ?_ ?_ ?_) (by (simp (disch:=omega) only [push_cast,seval,hK,c3,hk1,Bgz,List.length_set,List.set_set])<;>rfl) (by (simp (disch:=omega) only [push_cast,seval,hK,c3,hk1,Bgz,List.length_set,List.set_set])<;>rfl) ?_;(iterate 3 (exact sd));rintro _ _ ⟨rfl,rfl⟩)))<;>(try simp (disch:=omega) only [push_cast,seval,hK,c3,hk1,Bgz,List.length_set,List.set_set]))
 | ((first|refine Alz false ?_|refine Atz false ?_);simp (disch:=omega) only [push_cast,seval,hK,c3,hk1,Bgz,List.length_set,List.set_set])
 | ((first|((first|refine Akz (A9z _ _ _ _ _ ?_ ?_ ?_) ?_|refine Agz (Ajz (plainV (A9z _ _ _ _ _ ?_ ?_ ?_))) ⟨_,_,rfl,rfl⟩ ?_);(iterate 3 (exact sd));rintro _ _ ⟨rfl,rfl⟩)|((first|refine Akz (Bzz _ _ _ _ _ _ ?_ ?_) ?_|refine Agz (Ajz (Efz (Bzz _ _ _ _ _ _ ?_ ?_))) ⟨_,_,rfl,rfl⟩ ?_);(iterate 2 (exact sd));rintro _ _ ⟨rfl,rfl⟩)|((first|refine Akz (Ajz (Bcz _ _ _ ?_ ?_)) ?_|refine Agz (Ajz (Bcz _ _ _ ?_ ?_)) ⟨_,_,rfl,rfl⟩ ?_);(iterate 2 (exact sd));rintro _ _ ⟨rfl,rfl⟩)|((first|refine Akz (Ajz (Bcz _ _ _ ?_ ?_)) ?_|refine Agz (Ajz (Bcz _ _ _ ?_ ?_)) ⟨_,_,rfl,rfl⟩ ?_);(iterate 2 (exact sd));rintro _ _ ⟨rfl,rfl⟩)|((first|refine Akz (Brz _ _ _ ?_) ?_|refine Agz (Ajz (Efz (Brz _ _ _ ?_))) ⟨_,_,rfl,rfl⟩ ?_);(exact sd);rintro _ _ ⟨rfl,rfl⟩))<;>(try simp (disch:=omega) only [push_cast,seval,hK,c3,hk1,Bgz,List.length_set,List.set_set]))
 | (refine Adz ⟨.inr rfl,[176,960],[],_,by decide,rfl,?_⟩;(try simp (disch:=omega) only [push_cast,seval,↓Aez,↓Acz,↓List.map_cons,↓List.map_nil,hK,c3,hk1,Bgz,List.length_set,List.set_set]))))
      all_goals (try (simp [OV];done))
  · have e1:cutB b sh st j f t w hf ht=b + pS (sFrom f (sh.getD j 0) w hf) (cutK (sh.getD j 0) f t w hf ht) * st.getD j 0:=if_neg hz
    have e2:cutSt sh st j f t w hf ht=st.set j (cutX sh st j f t w hf ht):=if_neg hz
    rw [e1,e2]
    unfold cutSh at hz hg ⊢
    unfold cutX
    generalize hkk:cutK (sh.getD j 0) f t w hf ht=k at *
    have hzg:=And.intro hg hz
    by_cases hk1:(k:Int) ≤ 1
    · (repeat' (first
 | (first|refine Ahz ?_|refine Abz ?_)
 | ((first|refine Aiz ?_|refine Avz (mid:=l77r2a) (post:=l77r2b) Baz (by decide) ?_|refine Avz (mid:=l77r5a) (post:=l77r5b) Baz (by decide) ?_|refine Avz (mid:=l77r6a) (post:=l77r6b) Baz (by decide) ?_|refine Afz ?_);simp (disch:=omega) only [push_cast,seval,l77r0,l77r1,l77r2a,l77r2b,l77r2,l77r3,l77r4,l77r5a,l77r5b,l77r5,l77r6a,l77r6b,l77r6,l77r7,l77r8,l77r9,hK,c3,hk1,Bgz,List.length_set,List.set_set,List.length_replicate])
 | ((first|((with_reducible refine Ayz (f:=86) [176,177] false ?_);simp (disch:=omega) only [push_cast,seval,hK,c3,hk1,Bgz,List.length_set,List.set_set,List.length_replicate];(refine B6z (id:=176) (id':=177) (by decide) (stidy1_ok _ _ _ _ _ ?_ ?_ ?_) (by (simp (disch:=omega) only [push_cast,seval,hK,c3,hk1,Bgz,List.length_set,List.set_set,List.length_replicate])<;>rfl) (by (simp (disch:=omega) only [push_cast,seval,hK,c3,hk1,Bgz,List.length_set,List.set_set,List.length_replicate])<;>rfl) ?_;(iterate 3 (exact sd));rintro _ _ ⟨rfl,rfl⟩)))<;>(try simp (disch:=omega) only [push_cast,seval,hK,c3,hk1,Bgz,List.length_set,List.set_set,List.length_replicate]))
 | ((first|refine Alz false ?_|refine Atz false ?_);simp (disch:=omega) only [push_cast,seval,hK,c3,hk1,Bgz,List.length_set,List.set_set,List.length_replicate])
 | ((first|((first|refine Akz (A9z _ _ _ _ _ ?_ ?_ ?_) ?_|refine Agz (Ajz (plainV (A9z _ _ _ _ _ ?_ ?_ ?_))) ⟨_,_,rfl,rfl⟩ ?_);(iterate 3 (exact sd));rintro _ _ ⟨rfl,rfl⟩)|((first|refine Akz (Bzz _ _ _ _ _ _ ?_ ?_) ?_|refine Agz (Ajz (Efz (Bzz _ _ _ _ _ _ ?_ ?_))) ⟨_,_,rfl,rfl⟩ ?_);(iterate 2 (exact sd));rintro _ _ ⟨rfl,rfl⟩)|((first|refine Akz (Ajz (Bcz _ _ _ ?_ ?_)) ?_|refine Agz (Ajz (Bcz _ _ _ ?_ ?_)) ⟨_,_,rfl,rfl⟩ ?_);(iterate 2 (exact sd));rintro _ _ ⟨rfl,rfl⟩)|((first|refine Akz (Ajz (Bcz _ _ _ ?_ ?_)) ?_|refine Agz (Ajz (Bcz _ _ _ ?_ ?_)) ⟨_,_,rfl,rfl⟩ ?_);(iterate 2 (exact sd));rintro _ _ ⟨rfl,rfl⟩)|((first|refine Akz (Brz _ _ _ ?_) ?_|refine Agz (Ajz (Efz (Brz _ _ _ ?_))) ⟨_,_,rfl,rfl⟩ ?_);(exact sd);rintro _ _ ⟨rfl,rfl⟩))<;>(try simp (disch:=omega) only [push_cast,seval,hK,c3,hk1,Bgz,List.length_set,List.set_set,List.length_replicate]))
 | (refine Adz ⟨.inr rfl,[176,177],[],_,by decide,rfl,?_⟩;(try simp (disch:=omega) only [push_cast,seval,↓Aez,↓Acz,↓List.map_cons,↓List.map_nil,hK,c3,hk1,Bgz,List.length_set,List.set_set,List.length_replicate]))))
      all_goals (try (simp [OV,hk1,hl];done))
    · (repeat' (first
 | (first|refine Ahz ?_|refine Abz ?_)
 | ((first|refine Aiz ?_|refine Avz (mid:=l77r2a) (post:=l77r2b) Baz (by decide) ?_|refine Avz (mid:=l77r5a) (post:=l77r5b) Baz (by decide) ?_|refine Avz (mid:=l77r6a) (post:=l77r6b) Baz (by decide) ?_|refine Afz ?_|refine Aoz ?_);simp (disch:=omega) only [push_cast,seval,l77r0,l77r1,l77r2a,l77r2b,l77r2,l77r3,l77r4,l77r5a,l77r5b,l77r5,l77r6a,l77r6b,l77r6,l77r7,l77r8,l77r9,hK,c3,hk1,Bgz,List.length_set,List.set_set,List.length_replicate])
 | ((first|((with_reducible refine Ayz (f:=86) [176,177] false ?_);simp (disch:=omega) only [push_cast,seval,hK,c3,hk1,Bgz,List.length_set,List.set_set,List.length_replicate];(refine B6z (id:=176) (id':=177) (by decide) (stidy1_ok _ _ _ _ _ ?_ ?_ ?_) (by (simp (disch:=omega) only [push_cast,seval,hK,c3,hk1,Bgz,List.length_set,List.set_set,List.length_replicate])<;>rfl) (by (simp (disch:=omega) only [push_cast,seval,hK,c3,hk1,Bgz,List.length_set,List.set_set,List.length_replicate])<;>rfl) ?_;(iterate 3 (exact sd));rintro _ _ ⟨rfl,rfl⟩)))<;>(try simp (disch:=omega) only [push_cast,seval,hK,c3,hk1,Bgz,List.length_set,List.set_set,List.length_replicate]))
 | ((first|refine Alz false ?_|refine Atz false ?_);simp (disch:=omega) only [push_cast,seval,hK,c3,hk1,Bgz,List.length_set,List.set_set,List.length_replicate])
 | ((first|((first|refine Akz (A9z _ _ _ _ _ ?_ ?_ ?_) ?_|refine Agz (Ajz (plainV (A9z _ _ _ _ _ ?_ ?_ ?_))) ⟨_,_,rfl,rfl⟩ ?_);(iterate 3 (exact sd));rintro _ _ ⟨rfl,rfl⟩)|((first|refine Akz (Bzz _ _ _ _ _ _ ?_ ?_) ?_|refine Agz (Ajz (Efz (Bzz _ _ _ _ _ _ ?_ ?_))) ⟨_,_,rfl,rfl⟩ ?_);(iterate 2 (exact sd));rintro _ _ ⟨rfl,rfl⟩)|((first|refine Akz (Ajz (Bcz _ _ _ ?_ ?_)) ?_|refine Agz (Ajz (Bcz _ _ _ ?_ ?_)) ⟨_,_,rfl,rfl⟩ ?_);(iterate 2 (exact sd));rintro _ _ ⟨rfl,rfl⟩)|((first|refine Akz (Ajz (Bcz _ _ _ ?_ ?_)) ?_|refine Agz (Ajz (Bcz _ _ _ ?_ ?_)) ⟨_,_,rfl,rfl⟩ ?_);(iterate 2 (exact sd));rintro _ _ ⟨rfl,rfl⟩)|((first|refine Akz (Brz _ _ _ ?_) ?_|refine Agz (Ajz (Efz (Brz _ _ _ ?_))) ⟨_,_,rfl,rfl⟩ ?_);(exact sd);rintro _ _ ⟨rfl,rfl⟩))<;>(try simp (disch:=omega) only [push_cast,seval,hK,c3,hk1,Bgz,List.length_set,List.set_set,List.length_replicate]))
 | (refine Adz ⟨.inr rfl,[176,177],[],_,by decide,rfl,?_⟩;(try simp (disch:=omega) only [push_cast,seval,↓Aez,↓Acz,↓List.map_cons,↓List.map_nil,hK,c3,hk1,Bgz,List.length_set,List.set_set,List.length_replicate]))))
      all_goals (try (simp [OV,hk1,hl];done))

end Go.Proofs.YtfccepgibbdfaaaDoor
namespace Go.Proofs.YtfccepgibbdfaaaDoor
open VwM Vw Go
variable [PowA]

def sdOk (b:Int) (sh st:List Int) (d:Int) (f t w:Int) (hf ht:Bool):Bool :=
  vV b sh st && (decide (0 ≤ d) && decide (d ≤ (sh.length:Int) - 1)) && vS f t w hf ht && vV (cutB b sh st d.toNat f t w hf ht) (cutSh sh d.toNat f t w hf ht) (cutSt sh st d.toNat f t w hf ht)
theorem fls_and {p q:Prop} [Decidable p] [Decidable q] (h:¬ (p ∧ q)):(decide p && decide q)=false:=by
  rw [Bool.eq_false_iff];intro h';simp at h';exact h h'
theorem tru_and {p q:Prop} [Decidable p] [Decidable q] (h:p ∧ q):(decide p && decide q)=true:=by simp [h.1,h.2]


theorem Csz (b:Int) (sh st:List Int) (n m:Nat) (d:Int) (f t w:Int) (hf ht:Bool) (hn:sh.length=n) (hm:st.length=m) (hb:n ≤ 1099511627776 ∧ m ≤ 1099511627776) :
    BCall Tryd.prog 59 [.agg [.int .i64 b,.rows false (IL sh) n,.rows false (IL st) m],.int .i64 d,slc f t w hf ht] [] (MV (sdOk b sh st d f t w hf ht) (cutB b sh st d.toNat f t w hf ht) (cutSh sh d.toNat f t w hf ht) (cutSt sh st d.toNat f t w hf ht)):=by
  subst hn hm
  obtain ⟨hb1,hb2⟩:=hb
  refine Axz (pins:=[]) (pin:=0) l59_eq rfl rfl rfl ?_
  cases hv:vV b sh st with
  | false =>
    have e:sdOk b sh st d f t w hf ht=false:=by simp [sdOk,hv]
    rw [e]
    (repeat' (first
 | (first|refine Ahz ?_|refine Abz ?_)
 | ((first|refine Aiz ?_|refine Afz ?_);simp (disch:=omega) only [push_cast,seval,l59r0,l59r1,l59r2,l59r3,hv])
 | ((first|refine Alz false ?_);simp (disch:=omega) only [push_cast,seval,hv])
 | ((first|((first|refine Akz (Ajz (Aqz _ _ _ _ _ ?_ ?_ ?_)) ?_|refine Agz (Ajz (Aqz _ _ _ _ _ ?_ ?_ ?_)) ⟨_,_,rfl,rfl⟩ ?_);(iterate 3 (exact sd));rintro _ _ ⟨rfl,rfl⟩))<;>(try simp (disch:=omega) only [push_cast,seval,hv]))
 | (refine Adz ⟨.inr rfl,[16000,16016],[(16000,1),(16016,1)],_,by decide,rfl,?_⟩;(try simp (disch:=omega) only [push_cast,seval,↓Aez,↓Acz,↓List.map_cons,↓List.map_nil,hv]))))
    all_goals simp [MV,MVB,MVL]
  | true =>
  by_cases hd:0 ≤ d ∧ d ≤ (sh.length:Int) - 1
  · cases hs:vS f t w hf ht with
    | false =>
      have e:sdOk b sh st d f t w hf ht=false:=by simp [sdOk,hs]
      have hd':=tru_and hd
      rw [e]
      (repeat' (first
 | (first|refine Ahz ?_|refine Abz ?_)
 | ((first|refine Aiz ?_|refine Afz ?_);simp (disch:=omega) only [push_cast,seval,l59r0,l59r1,l59r2,l59r3,hv,hd',hs])
 | ((first|refine Alz false ?_);simp (disch:=omega) only [push_cast,seval,hv,hd',hs])
 | ((first|((first|refine Akz (Ajz (Aqz _ _ _ _ _ ?_ ?_ ?_)) ?_|refine Agz (Ajz (Aqz _ _ _ _ _ ?_ ?_ ?_)) ⟨_,_,rfl,rfl⟩ ?_);(iterate 3 (exact sd));rintro _ _ ⟨rfl,rfl⟩)|((first|refine Akz (Ajz (C4z _ _ _ _ _ _ ?_ ?_)) ?_|refine Agz (Ajz (C4z _ _ _ _ _ _ ?_ ?_)) ⟨_,_,rfl,rfl⟩ ?_);(iterate 2 (exact sd));rintro _ _ ⟨rfl,rfl⟩)|((first|refine Akz (Ajz (Cfz _ _ _ _ _)) ?_|refine Agz (Ajz (Cfz _ _ _ _ _)) ⟨_,_,rfl,rfl⟩ ?_);rintro _ _ ⟨rfl,rfl⟩))<;>(try simp (disch:=omega) only [push_cast,seval,hv,hd',hs]))
 | (refine Adz ⟨.inr rfl,[16000,16016],[(16000,1),(16016,1)],_,by decide,rfl,?_⟩;(try simp (disch:=omega) only [push_cast,seval,↓Aez,↓Acz,↓List.map_cons,↓List.map_nil,hv,hd',hs]))))
      all_goals simp [MV,MVB,MVL]
    | true =>
      have hd':=tru_and hd
      obtain ⟨j,rfl⟩:∃ j:Nat,d=j:=⟨d.toNat,by omega⟩
      have hj:j < sh.length:=by omega
      have e:sdOk b sh st j f t w hf ht=vV (cutB b sh st j f t w hf ht) (cutSh sh j f t w hf ht) (cutSt sh st j f t w hf ht):=by simp only [sdOk,hv,hs,hd',Int.toNat_natCast,Bool.true_and]
      rw [e]
      simp only [Int.toNat_natCast]
      have hlen:=(Cqz hv).2
      have l1:=Bqz sh j f t w hf ht
      have l2:=Fsz hlen j f t w hf ht
      have hq:(cutSh sh j f t w hf ht).length ≤ 1099511627776 ∧ (cutSt sh st j f t w hf ht).length ≤ 1099511627776:=by omega
      (repeat' (first
 | (first|refine Ahz ?_|refine Abz ?_)
 | ((first|refine Aiz ?_|refine Afz ?_|refine Aoz ?_);simp (disch:=omega) only [push_cast,seval,l59r0,l59r1,l59r2,l59r3,hv,hd',hs])
 | ((first|refine Alz false ?_);simp (disch:=omega) only [push_cast,seval,hv,hd',hs])
 | ((first|((first|refine Akz (Ajz (Aqz _ _ _ _ _ ?_ ?_ ?_)) ?_|refine Agz (Ajz (Aqz _ _ _ _ _ ?_ ?_ ?_)) ⟨_,_,rfl,rfl⟩ ?_);(iterate 3 (exact sd));rintro _ _ ⟨rfl,rfl⟩)|((first|refine Akz (Ajz (C4z _ _ _ _ _ _ ?_ ?_)) ?_|refine Agz (Ajz (C4z _ _ _ _ _ _ ?_ ?_)) ⟨_,_,rfl,rfl⟩ ?_);(iterate 2 (exact sd));rintro _ _ ⟨rfl,rfl⟩)|((first|refine Akz (Ajz (Cfz _ _ _ _ _)) ?_|refine Agz (Ajz (Cfz _ _ _ _ _)) ⟨_,_,rfl,rfl⟩ ?_);rintro _ _ ⟨rfl,rfl⟩)|((first|refine Akz (Hhz _ _ _ _ _ _ _ _ _ _ _ ?_ ?_ ?_ ?_) ?_|refine Agz (Hhz _ _ _ _ _ _ _ _ _ _ _ ?_ ?_ ?_ ?_) ⟨_,_,rfl,rfl⟩ ?_);(iterate 4 (exact sd));rintro _ _ ⟨rfl,rfl⟩)|((first|refine Akz (smade_ok _ _ _ _ _ ?_ ?_ ?_) ?_|refine Agz (smade_ok _ _ _ _ _ ?_ ?_ ?_) ⟨_,_,rfl,rfl⟩ ?_);(iterate 3 (exact sd));rintro _ _ ⟨rfl,rfl⟩))<;>(try simp (disch:=omega) only [push_cast,seval,hv,hd',hs]))
 | (refine Adz ⟨.inr rfl,[432,433],[],_,by decide,rfl,?_⟩;(try simp (disch:=omega) only [push_cast,seval,↓Aez,↓Acz,↓List.map_cons,↓List.map_nil,hv,hd',hs]))))
      all_goals exact ⟨rfl,rfl⟩
  · have hd':=fls_and hd
    have e:sdOk b sh st d f t w hf ht=false:=by simp only [sdOk,hd',Bool.and_false,Bool.false_and]
    rw [e]
    (repeat' (first
 | (first|refine Ahz ?_|refine Abz ?_)
 | ((first|refine Aiz ?_|refine Afz ?_);simp (disch:=omega) only [push_cast,seval,l59r0,l59r1,l59r2,l59r3,hv,hd'])
 | ((first|refine Alz false ?_);simp (disch:=omega) only [push_cast,seval,hv,hd'])
 | ((first|((first|refine Akz (Ajz (Aqz _ _ _ _ _ ?_ ?_ ?_)) ?_|refine Agz (Ajz (Aqz _ _ _ _ _ ?_ ?_ ?_)) ⟨_,_,rfl,rfl⟩ ?_);(iterate 3 (exact sd));rintro _ _ ⟨rfl,rfl⟩)|((first|refine Akz (Ajz (C4z _ _ _ _ _ _ ?_ ?_)) ?_|refine Agz (Ajz (C4z _ _ _ _ _ _ ?_ ?_)) ⟨_,_,rfl,rfl⟩ ?_);(iterate 2 (exact sd));rintro _ _ ⟨rfl,rfl⟩))<;>(try simp (disch:=omega) only [push_cast,seval,hv,hd']))
 | (refine Adz ⟨.inr rfl,[16000,16016],[(16000,1),(16016,1)],_,by decide,rfl,?_⟩;(try simp (disch:=omega) only [push_cast,seval,↓Aez,↓Acz,↓List.map_cons,↓List.map_nil,hv,hd']))))
    all_goals simp [MV,MVB,MVL]


end Go.Proofs.YtfccepgibbdfaaaDoor
namespace Go.Proofs.YtfccepgibbdfaaaDoor
open VwM Vw Go
variable [PowA]

end Go.Proofs.YtfccepgibbdfaaaDoor
namespace Go.Proofs.YtfccepgibbdfaaaDoor
open VwM Vw Go
variable [PowA]

theorem seeB_mem {mem:List Int} {b:Int} {sh st:List Int} (h:vMem mem=false):seeB mem b sh st=false:=by simp [seeB,h]
theorem seeB_view {mem:List Int} {b:Int} {sh st:List Int} (h:vV b sh st=false):seeB mem b sh st=false:=by simp [seeB,h]
theorem seeB_rest {mem:List Int} {b:Int} {sh st:List Int} (h1:vMem mem=true) (h2:vV b sh st=true):seeB mem b sh st=allI (offs b sh st) 0 ((mem.length:Int) - 1):=by simp [seeB,h1,h2]
theorem Cgz (xs:List Int) (n:Nat) (hn:xs.length=n) (hb:n ≤ 1099511627776):PCall Tryd.prog 54 [.rows false (IL xs) n] (fun r=>r=.bool (vMem xs)):=by
  subst hn
  refine A1z l54_eq rfl ?_
  by_cases h4:xs.length ≤ 60
  · cases ha:allI xs 0 255 with
    | false =>
      (repeat' (first
 | (first|refine Ahz ?_|refine Abz ?_)
 | ((first|refine Aiz ?_);simp (disch:=omega) only [push_cast,seval,l54r0,l54r1,ha])
 | ((first|refine Bpz (fun h=>?_) (fun h=>?_))<;>(try simp only [h])<;>(try simp only [bitvec_to_nat] at h)<;>(try simp only [h])<;>(first|(exfalso;omega)|(exfalso;simp_all;done)|(simp (disch:=omega) only [push_cast,seval,ha])|skip))
 | ((first|refine Alz false ?_);simp (disch:=omega) only [push_cast,seval,ha])
 | ((first|((first|refine Akz (Ajz (Bfz _ _ _ _ ?_ ?_)) ?_|refine Agz (Ajz (Bfz _ _ _ _ ?_ ?_)) ⟨_,_,rfl,rfl⟩ ?_);(iterate 2 (exact sd));rintro _ _ ⟨rfl,rfl⟩))<;>(try simp (disch:=omega) only [push_cast,seval,ha]))
 | (refine Adz ⟨.inr rfl,_,rfl,?_⟩;(try simp (disch:=omega) only [push_cast,seval,ha]))))
      all_goals simp [vMem,ha]
    | true =>
      (repeat' (first
 | (first|refine Ahz ?_|refine Abz ?_)
 | ((first|refine Aiz ?_);simp (disch:=omega) only [push_cast,seval,l54r0,l54r1,ha])
 | ((first|refine Bpz (fun h=>?_) (fun h=>?_))<;>(try simp only [h])<;>(try simp only [bitvec_to_nat] at h)<;>(try simp only [h])<;>(first|(exfalso;omega)|(exfalso;simp_all;done)|(simp (disch:=omega) only [push_cast,seval,ha])|skip))
 | ((first|refine Alz false ?_);simp (disch:=omega) only [push_cast,seval,ha])
 | ((first|((first|refine Akz (Ajz (Bfz _ _ _ _ ?_ ?_)) ?_|refine Agz (Ajz (Bfz _ _ _ _ ?_ ?_)) ⟨_,_,rfl,rfl⟩ ?_);(iterate 2 (exact sd));rintro _ _ ⟨rfl,rfl⟩))<;>(try simp (disch:=omega) only [push_cast,seval,ha]))
 | (refine Adz ⟨.inr rfl,_,rfl,?_⟩;(try simp (disch:=omega) only [push_cast,seval,ha]))))
      all_goals simp [vMem,ha,h4]
  · (repeat' (first
 | (first|refine Ahz ?_|refine Abz ?_)
 | ((first|refine Aiz ?_);simp (disch:=omega) only [push_cast,seval,l54r0,l54r1])
 | ((first|refine Bpz (fun h=>?_) (fun h=>?_))<;>(try simp only [h])<;>(try simp only [bitvec_to_nat] at h)<;>(try simp only [h])<;>(first|(exfalso;omega)|(exfalso;simp_all;done)|(simp (disch:=omega) only [push_cast,seval])|skip))
 | (refine Adz ⟨.inr rfl,_,rfl,?_⟩;(try simp (disch:=omega) only [push_cast,seval]))))
    all_goals simp [vMem,h4]


theorem Ckz (mem:List Int) (b:Int) (sh st:List Int) (q n m:Nat) (hq:mem.length=q) (hn:sh.length=n) (hm:st.length=m) (hb:q ≤ 1099511627776 ∧ n ≤ 1099511627776 ∧ m ≤ 1099511627776):PCall Tryd.prog 78 [.rows false (IL mem) q,.agg [.int .i64 b,.rows false (IL sh) n,.rows false (IL st) m]] (fun r=>r=.bool (seeB mem b sh st)):=by
  subst hq hn hm
  obtain ⟨hb0,hb1,hb2⟩:=hb
  refine A1z l78_eq rfl ?_
  cases hm:vMem mem with
  | false =>
    rw [seeB_mem hm]
    (repeat' (first
 | (first|refine Ahz ?_|refine Abz ?_)
 | ((first|refine Aiz ?_);simp (disch:=omega) only [push_cast,seval,l78r0,l78r1,hm])
 | ((first|refine Alz false ?_);simp (disch:=omega) only [push_cast,seval,hm])
 | ((first|((first|refine Akz (Ajz (Cgz _ _ ?_ ?_)) ?_|refine Agz (Ajz (Cgz _ _ ?_ ?_)) ⟨_,_,rfl,rfl⟩ ?_);(iterate 2 (exact sd));rintro _ _ ⟨rfl,rfl⟩))<;>(try simp (disch:=omega) only [push_cast,seval,hm]))
 | (refine Adz ⟨.inr rfl,_,rfl,?_⟩;(try simp (disch:=omega) only [push_cast,seval,hm]))))
  | true =>
  have h60:=(Chz.1 hm).1
  cases hv:vV b sh st with
  | false =>
    rw [seeB_view hv]
    (repeat' (first
 | (first|refine Ahz ?_|refine Abz ?_)
 | ((first|refine Aiz ?_);simp (disch:=omega) only [push_cast,seval,l78r0,l78r1,hm,hv])
 | ((first|refine Alz false ?_);simp (disch:=omega) only [push_cast,seval,hm,hv])
 | ((first|((first|refine Akz (Ajz (Cgz _ _ ?_ ?_)) ?_|refine Agz (Ajz (Cgz _ _ ?_ ?_)) ⟨_,_,rfl,rfl⟩ ?_);(iterate 2 (exact sd));rintro _ _ ⟨rfl,rfl⟩)|((first|refine Akz (Ajz (Aqz _ _ _ _ _ ?_ ?_ ?_)) ?_|refine Agz (Ajz (Aqz _ _ _ _ _ ?_ ?_ ?_)) ⟨_,_,rfl,rfl⟩ ?_);(iterate 3 (exact sd));rintro _ _ ⟨rfl,rfl⟩))<;>(try simp (disch:=omega) only [push_cast,seval,hm,hv]))
 | (refine Adz ⟨.inr rfl,_,rfl,?_⟩;(try simp (disch:=omega) only [push_cast,seval,hm,hv]))))
  | true =>
    have hok:=(Cqz hv).1
    have q1:okV b sh st ∧ -1000000 ≤ (mem.length:Int) ∧ (mem.length:Int) ≤ 1000000:=⟨hok,by omega,by omega⟩
    rw [seeB_rest hm hv]
    (repeat' (first
 | (first|refine Ahz ?_|refine Abz ?_)
 | ((first|refine Aiz ?_);simp (disch:=omega) only [push_cast,seval,l78r0,l78r1,hm,hv])
 | ((first|refine Alz false ?_);simp (disch:=omega) only [push_cast,seval,hm,hv])
 | ((first|((first|refine Akz (Ajz (Cgz _ _ ?_ ?_)) ?_|refine Agz (Ajz (Cgz _ _ ?_ ?_)) ⟨_,_,rfl,rfl⟩ ?_);(iterate 2 (exact sd));rintro _ _ ⟨rfl,rfl⟩)|((first|refine Akz (Ajz (Aqz _ _ _ _ _ ?_ ?_ ?_)) ?_|refine Agz (Ajz (Aqz _ _ _ _ _ ?_ ?_ ?_)) ⟨_,_,rfl,rfl⟩ ?_);(iterate 3 (exact sd));rintro _ _ ⟨rfl,rfl⟩)|((first|refine Akz (Ajz (sfits_ok _ _ _ _ _ _ ?_ ?_ ?_)) ?_|refine Agz (Ajz (sfits_ok _ _ _ _ _ _ ?_ ?_ ?_)) ⟨_,_,rfl,rfl⟩ ?_);(iterate 3 (exact sd));rintro _ _ ⟨rfl,rfl⟩))<;>(try simp (disch:=omega) only [push_cast,seval,hm,hv]))
 | (refine Adz ⟨.inr rfl,_,rfl,?_⟩;(try simp (disch:=omega) only [push_cast,seval,hm,hv]))))


/-- Two views of an equal shape fit. -/
def twoB (mem:List Int) (b:Int) (sh st:List Int) (b':Int) (sh' st':List Int):Bool:=seeB mem b sh st && seeB mem b' sh' st' && decide (sh=sh')


theorem Ikz (mem:List Int) (b:Int) (sh st:List Int) (b':Int) (sh' st':List Int) (q n m n' m':Nat) (hq:mem.length=q) (hn:sh.length=n) (hm:st.length=m) (hn':sh'.length=n') (hm':st'.length=m') (hb:(q ≤ 1099511627776 ∧ n ≤ 1099511627776 ∧ m ≤ 1099511627776) ∧ n' ≤ 1099511627776 ∧ m' ≤ 1099511627776):PCall Tryd.prog 79 [.rows false (IL mem) q,.agg [.int .i64 b,.rows false (IL sh) n,.rows false (IL st) m],.agg [.int .i64 b',.rows false (IL sh') n',.rows false (IL st') m']] (fun r=>r=.bool (twoB mem b sh st b' sh' st')):=by
  subst hq hn hm hn' hm'
  obtain ⟨⟨hb0,hb1,hb2⟩,hb3,hb4⟩:=hb
  have q1:mem.length ≤ 1099511627776 ∧ sh.length ≤ 1099511627776 ∧ st.length ≤ 1099511627776:=⟨hb0,hb1,hb2⟩
  have q2:mem.length ≤ 1099511627776 ∧ sh'.length ≤ 1099511627776 ∧ st'.length ≤ 1099511627776:=⟨hb0,hb3,hb4⟩
  refine A1z l79_eq rfl ?_
  unfold twoB
  cases h1:seeB mem b sh st with
  | false =>
    (repeat' (first
 | (first|refine Ahz ?_|refine Abz ?_)
 | ((first|refine Aiz ?_);simp (disch:=omega) only [push_cast,seval,l79r0,l79r1,h1])
 | ((first|refine Alz false ?_);simp (disch:=omega) only [push_cast,seval,h1])
 | ((first|((first|refine Akz (Ajz (Ckz _ _ _ _ _ _ _ ?_ ?_ ?_ ?_)) ?_|refine Agz (Ajz (Ckz _ _ _ _ _ _ _ ?_ ?_ ?_ ?_)) ⟨_,_,rfl,rfl⟩ ?_);(iterate 4 (exact sd));rintro _ _ ⟨rfl,rfl⟩))<;>(try simp (disch:=omega) only [push_cast,seval,h1]))
 | (refine Adz ⟨.inr rfl,_,rfl,?_⟩;(try simp (disch:=omega) only [push_cast,seval,h1]))))
    all_goals simp
  | true =>
  cases h2:seeB mem b' sh' st' with
  | false =>
    (repeat' (first
 | (first|refine Ahz ?_|refine Abz ?_)
 | ((first|refine Aiz ?_);simp (disch:=omega) only [push_cast,seval,l79r0,l79r1,h1,h2])
 | ((first|refine Alz false ?_);simp (disch:=omega) only [push_cast,seval,h1,h2])
 | ((first|((first|refine Akz (Ajz (Ckz _ _ _ _ _ _ _ ?_ ?_ ?_ ?_)) ?_|refine Agz (Ajz (Ckz _ _ _ _ _ _ _ ?_ ?_ ?_ ?_)) ⟨_,_,rfl,rfl⟩ ?_);(iterate 4 (exact sd));rintro _ _ ⟨rfl,rfl⟩))<;>(try simp (disch:=omega) only [push_cast,seval,h1,h2]))
 | (refine Adz ⟨.inr rfl,_,rfl,?_⟩;(try simp (disch:=omega) only [push_cast,seval,h1,h2]))))
    all_goals simp
  | true =>
    (repeat' (first
 | (first|refine Ahz ?_|refine Abz ?_)
 | ((first|refine Aiz ?_);simp (disch:=omega) only [push_cast,seval,l79r0,l79r1,h1,h2])
 | ((first|refine Alz false ?_);simp (disch:=omega) only [push_cast,seval,h1,h2])
 | ((first|((first|refine Akz (Ajz (Ckz _ _ _ _ _ _ _ ?_ ?_ ?_ ?_)) ?_|refine Agz (Ajz (Ckz _ _ _ _ _ _ _ ?_ ?_ ?_ ?_)) ⟨_,_,rfl,rfl⟩ ?_);(iterate 4 (exact sd));rintro _ _ ⟨rfl,rfl⟩)|((first|refine Akz (Ajz (F7z _ _ _ _ ?_ ?_ ?_)) ?_|refine Agz (Ajz (F7z _ _ _ _ ?_ ?_ ?_)) ⟨_,_,rfl,rfl⟩ ?_);(iterate 3 (exact sd));rintro _ _ ⟨rfl,rfl⟩))<;>(try simp (disch:=omega) only [push_cast,seval,h1,h2]))
 | (refine Adz ⟨.inr rfl,_,rfl,?_⟩;(try simp (disch:=omega) only [push_cast,seval,h1,h2]))))
    all_goals simp


theorem C5z {mem:List Int} {b:Int} {sh st:List Int} (h:seeB mem b sh st=true):okV b sh st ∧ st.length=sh.length ∧ good4 sh ∧ 0 ≤ pr sh ∧ pr sh ≤ 60 ∧ mem.length ≤ 60:=by
  obtain ⟨h1,h2,h3⟩:=Evz.1 h
  obtain ⟨hok,hl⟩:=Cqz h2
  have hs:=Cez (B3z.1 h2).1
  exact ⟨hok,hl,hs.1,hs.2.1,hs.2.2,(Chz.1 h1).1⟩


theorem Fvz (mem:List Int) (b:Int) (sh st:List Int) (q n m:Nat) (hq:mem.length=q) (hn:sh.length=n) (hm:st.length=m) (hb:seeB mem b sh st=true):BCall Tryd.prog 38 [.rows false (IL mem) q,.agg [.int .i64 b,.rows false (IL sh) n,.rows false (IL st) m]] [] (OI (takesL mem (offs b sh st))):=by
  subst hq hn hm
  obtain ⟨f1,f2,f3,f4,f5,f6⟩:=C5z hb
  have hat:=fun k hk=>seeB_at (k:=k) hb hk
  have hol:=Bkz b sh st
  generalize hL:offs b sh st=L at *
  refine Axz (pins:=[]) (pin:=0) l38_eq rfl rfl rfl ?_
  (repeat' (first
 | (first|refine Ahz ?_|refine Abz ?_)
 | ((first|refine Aiz ?_);simp (disch:=omega) only [push_cast,seval,l38r0,l38r1,l38r2,l38r3,l38r4,l38r5,l38r6,l38r7,hL])
 | ((first|refine Alz false ?_);simp (disch:=omega) only [push_cast,seval,hL])
 | ((first|((first|refine Akz (Bjz _ _ _ _ _ ?_ ?_ ?_) ?_|refine Agz (Bjz _ _ _ _ _ ?_ ?_ ?_) ⟨_,_,rfl,rfl⟩ ?_);(iterate 3 (exact sd));rintro _ _ ⟨rfl,rfl⟩))<;>(try simp (disch:=omega) only [push_cast,seval,hL]))
 | (refine Adz ⟨.inr rfl,[128],[],_,by decide,rfl,?_⟩;(try simp (disch:=omega) only [push_cast,seval,↓Aez,↓Acz,↓List.map_cons,↓List.map_nil,hL]);(first|done|(show AV.own _ _ _=_ ∧ _)))
 | (refine Adz ⟨.inr rfl,[160],[],_,by decide,rfl,?_⟩;(try simp (disch:=omega) only [push_cast,seval,↓Aez,↓Acz,↓List.map_cons,↓List.map_nil,hL]);(first|done|(show AV.own _ _ _=_ ∧ _)))
 | (refine Adz ⟨.inr rfl,[400],[],_,by decide,rfl,?_⟩;(try simp (disch:=omega) only [push_cast,seval,↓Aez,↓Acz,↓List.map_cons,↓List.map_nil,hL]);(first|done|(show AV.own _ _ _=_ ∧ _)))
 | (refine Adz ⟨.inr rfl,[416],[],_,by decide,rfl,?_⟩;(try simp (disch:=omega) only [push_cast,seval,↓Aez,↓Acz,↓List.map_cons,↓List.map_nil,hL]);(first|done|(show AV.own _ _ _=_ ∧ _)))))
  refine Bez (fun k:Nat=>mkS [(0,RI mem),(5,.own 128 k 1),(6,.own 160 L.length 1),(7,.int .i64 k)] [(128,IL (takesL mem (L.take k))),(160,IL L)])
    (fun k=>k ≤ L.length) (fun k=>L.length - k) 0 (Nat.zero_le _) ?_ ?_
  · have e0:takesL mem []=[]:=rfl
    (refine Sub.of_lists ?_ ?_ ?_ ?_ ?_<;>simp [Vw.mkS,Vw.lk,Vw.hk,AV.inn,innL,Arz,Anz,Asz,-List.map_set,-List.getD_eq_getElem?_getD,e0])
  · intro k hk
    have e1:(takesL mem (L.take k)).length=k:=by rw [Daz];simp;omega
    by_cases hlt:k < L.length
    · obtain ⟨h1,h2⟩:=hat k hlt
      have e2:takesL mem (L.take (k + 1))=takesL mem (L.take k) ++ [mem.getD (L.getD k 0).toNat 0]:=by rw [Edz L k hlt];simp [takesL]
      (repeat' (first
 | (first|refine Ahz ?_|refine Abz ?_)
 | ((first|refine Aiz ?_|refine Afz ?_|refine Aoz ?_);simp (disch:=omega) only [push_cast,seval,l38r0,l38r1,l38r2,l38r3,l38r4,l38r5,l38r6,l38r7,e1])
 | ((first|refine Amz (fun h=>?_) (fun h=>?_))<;>(try simp only [h])<;>(try simp only [bitvec_to_nat] at h)<;>(try simp only [h])<;>(first|(exfalso;omega)|(exfalso;simp_all;done)|(simp (disch:=omega) only [push_cast,seval,e1])|skip))
 | (refine Adz ⟨.inr rfl,[128],[],_,by decide,rfl,?_⟩;(try simp (disch:=omega) only [push_cast,seval,↓Aez,↓Acz,↓List.map_cons,↓List.map_nil,e1]))))
      refine ⟨k + 1,by omega,by omega,?_⟩
      (refine Sub.of_lists ?_ ?_ ?_ ?_ ?_<;>simp [Vw.mkS,Vw.lk,Vw.hk,AV.inn,innL,Arz,Anz,Asz,-List.map_set,-List.getD_eq_getElem?_getD,e2])
    · have:k=L.length:=by omega
      subst this
      rw [List.take_length] at e1
      rw [List.take_length]
      (repeat' (first
 | (first|refine Ahz ?_|refine Abz ?_)
 | ((first|refine Aiz ?_|refine Afz ?_|refine A7z ?_);simp (disch:=omega) only [push_cast,seval,l38r0,l38r1,l38r2,l38r3,l38r4,l38r5,l38r6,l38r7,e1])
 | ((first|refine Amz (fun h=>?_) (fun h=>?_))<;>(try simp only [h])<;>(try simp only [bitvec_to_nat] at h)<;>(try simp only [h])<;>(first|(exfalso;omega)|(exfalso;simp_all;done)|(simp (disch:=omega) only [push_cast,seval,e1])|skip))
 | (refine Adz ⟨.inr rfl,[128],[],_,by decide,rfl,?_⟩;(try simp (disch:=omega) only [push_cast,seval,↓Aez,↓Acz,↓List.map_cons,↓List.map_nil,e1]))))
      all_goals simp [OI,e1]


theorem sput_ok (mem:List Int) (b:Int) (sh st vals:List Int) (q n m v:Nat) (hq:mem.length=q) (hn:sh.length=n) (hm:st.length=m) (hv:vals.length=v) (hb:seeB mem b sh st=true ∧ (v:Int)=pr sh):BCall Tryd.prog 80 [.rows false (IL mem) q,.agg [.int .i64 b,.rows false (IL sh) n,.rows false (IL st) m],.rows false (IL vals) v] [] (OI (putL mem (offs b sh st) vals)):=by
  subst hq hn hm hv
  obtain ⟨hb,hvp⟩:=hb
  obtain ⟨f1,f2,f3,f4,f5,f6⟩:=C5z hb
  have hat:=fun k hk=>seeB_at (k:=k) hb hk
  have hol:=Bkz b sh st
  have hvl:vals.length=(offs b sh st).length:=by omega
  generalize hL:offs b sh st=L at *
  have hpl:mem.length ≤ 1099511627776:=by omega
  refine Axz (pins:=[]) (pin:=0) l80_eq rfl rfl rfl ?_
  (repeat' (first
 | (first|refine Ahz ?_|refine Abz ?_)
 | ((first|refine Aiz ?_);simp (disch:=omega) only [push_cast,seval,l80r0,l80r1,l80r2,l80r3,l80r4,l80r5a,l80r5b,l80r5,l80r6,l80r7,hL])
 | ((first|refine Alz false ?_);simp (disch:=omega) only [push_cast,seval,hL])
 | ((first|((first|refine Akz (B1z _ _ ?_ ?_) ?_|refine Agz (B1z _ _ ?_ ?_) ⟨_,_,rfl,rfl⟩ ?_);(iterate 2 (exact sd));rintro _ _ ⟨rfl,rfl⟩)|((first|refine Akz (Bjz _ _ _ _ _ ?_ ?_ ?_) ?_|refine Agz (Bjz _ _ _ _ _ ?_ ?_ ?_) ⟨_,_,rfl,rfl⟩ ?_);(iterate 3 (exact sd));rintro _ _ ⟨rfl,rfl⟩))<;>(try simp (disch:=omega) only [push_cast,seval,hL]))
 | (refine Adz ⟨.inr rfl,[176],[],_,by decide,rfl,?_⟩;(try simp (disch:=omega) only [push_cast,seval,↓Aez,↓Acz,↓List.map_cons,↓List.map_nil,hL]);(first|done|(show AV.own _ _ _=_ ∧ _)))
 | (refine Adz ⟨.inr rfl,[208],[],_,by decide,rfl,?_⟩;(try simp (disch:=omega) only [push_cast,seval,↓Aez,↓Acz,↓List.map_cons,↓List.map_nil,hL]);(first|done|(show AV.own _ _ _=_ ∧ _)))))
  refine Bez (fun k:Nat=>mkS [(2,RI vals),(7,.own 176 mem.length 1),(8,.own 208 L.length 1),(9,.int .i64 k)] [(176,IL (putK mem L vals k)),(208,IL L)])
    (fun k=>k ≤ L.length) (fun k=>L.length - k) 0 (Nat.zero_le _) ?_ ?_
  · have e0:putK mem L vals 0=mem:=rfl
    (refine Sub.of_lists ?_ ?_ ?_ ?_ ?_<;>simp [Vw.mkS,Vw.lk,Vw.hk,AV.inn,innL,Arz,Anz,Asz,-List.map_set,-List.getD_eq_getElem?_getD,e0])
  · intro k hk
    have e1:=Ddz mem L vals k
    by_cases hlt:k < L.length
    · obtain ⟨h1,h2⟩:=hat k hlt
      have h3:(L.getD k 0).toNat < mem.length:=by omega
      have h4:k < vals.length:=by omega
      have e2:putK mem L vals (k + 1)=(putK mem L vals k).set (L.getD k 0).toNat (vals.getD k 0):=rfl
      generalize putK mem L vals k=p at *
      (repeat' (first
 | (first|refine Ahz ?_|refine Abz ?_)
 | ((first|refine Aiz ?_|refine Avz (mid:=l80r5a) (post:=l80r5b) Baz (by decide) ?_|refine Afz ?_|refine Aoz ?_);simp (disch:=omega) only [push_cast,seval,l80r0,l80r1,l80r2,l80r3,l80r4,l80r5a,l80r5b,l80r5,l80r6,l80r7,e1])
 | ((first|refine Amz (fun h=>?_) (fun h=>?_))<;>(try simp only [h])<;>(try simp only [bitvec_to_nat] at h)<;>(try simp only [h])<;>(first|(exfalso;omega)|(exfalso;simp_all;done)|(simp (disch:=omega) only [push_cast,seval,e1])|skip))
 | (refine Adz ⟨.inr rfl,[176],[],_,by decide,rfl,?_⟩;(try simp (disch:=omega) only [push_cast,seval,↓Aez,↓Acz,↓List.map_cons,↓List.map_nil,e1]))))
      refine ⟨k + 1,by omega,by omega,?_⟩
      (refine Sub.of_lists ?_ ?_ ?_ ?_ ?_<;>simp [Vw.mkS,Vw.lk,Vw.hk,AV.inn,innL,Arz,Anz,Asz,-List.map_set,-List.getD_eq_getElem?_getD,e2,Bgz])
    · have hke:k=L.length:=by omega
      have e3:putK mem L vals k=putL mem L vals:=by rw [hke];rfl
      rw [e3] at e1
      rw [e3]
      (repeat' (first
 | (first|refine Ahz ?_|refine Abz ?_)
 | ((first|refine Aiz ?_|refine Afz ?_|refine A7z ?_);simp (disch:=omega) only [push_cast,seval,l80r0,l80r1,l80r2,l80r3,l80r4,l80r5a,l80r5b,l80r5,l80r6,l80r7,e1])
 | ((first|refine Amz (fun h=>?_) (fun h=>?_))<;>(try simp only [h])<;>(try simp only [bitvec_to_nat] at h)<;>(try simp only [h])<;>(first|(exfalso;omega)|(exfalso;simp_all;done)|(simp (disch:=omega) only [push_cast,seval,e1])|skip))
 | (refine Adz ⟨.inr rfl,[176],[],_,by decide,rfl,?_⟩;(try simp (disch:=omega) only [push_cast,seval,↓Aez,↓Acz,↓List.map_cons,↓List.map_nil,e1]))))
      all_goals simp [OI,e1]

end Go.Proofs.YtfccepgibbdfaaaDoor
namespace Go.Proofs.YtfccepgibbdfaaaDoor
open VwM Vw Go
variable [PowA]

end Go.Proofs.YtfccepgibbdfaaaDoor
namespace Go.Proofs.YtfccepgibbdfaaaDoor
open VwM Vw Go
variable [PowA]

end Go.Proofs.YtfccepgibbdfaaaDoor
