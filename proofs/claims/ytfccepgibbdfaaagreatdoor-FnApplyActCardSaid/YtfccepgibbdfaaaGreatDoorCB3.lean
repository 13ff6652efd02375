/- Texts of this verifier. -/
import Derived.Test.YtfccepgibbdfaaaGreatDoorCB2
import Derived.Test.YtfccepgibbdfaaaGreatDoorCM1
import Derived.Test.YtfccepgibbdfaaaGreatDoorCW3
set_option maxHeartbeats 4000000
set_option linter.unusedSimpArgs false
set_option linter.unusedSectionVars false
set_option linter.unusedVariables false
set_option maxRecDepth 4000
namespace Go.Proofs.YtfccepgibbdfaaaGreatDoor
open VwM Vw Go
variable [SentA]
variable [PowA]

theorem newReader_ok (bs:List Int)(n:Nat)(hn:bs.length=n)(hb:n≤1099511627776∧∀ x∈bs,0≤x∧x≤255):BCall Tryz.prog 40 [.rows false (UL bs) n] [] (fun r H'=>∃ bs',okB bs'∧r=.ref 0 2 0∧H'=[RD bs' 0]):=by
 subst hn
 obtain ⟨hb0,hb⟩:=hb
 refine Avz (pins:=[]) (pin:=0) l40_eq rfl rfl rfl ?_
 by_cases h:bs.length > 2000
 ·have h':(bs.length:Int) > 2000:=by omega
  have ht:(bs.take 2000).length=2000:=by simp;omega
  have eT:(UL bs).take 2000=UL (bs.take 2000):=List.map_take.symm
  (repeat' (first
 | (first|refine Afz ?_|refine Abz ?_)
 | ((first|refine Agz ?_|refine Acz ?_);simp (disch:=omega) only [push_cast,seval,h',eT])
 | (refine Adz ⟨.inr rfl,[160],[],_,by decide,rfl,?_⟩;(try simp (disch:=omega) only [push_cast,seval,↓Ahz,↓Aez,↓List.map_cons,↓List.map_nil,h',eT]))))
  exact ⟨bs.take 2000,⟨by omega,fun x hx=>hb x (List.mem_of_mem_take hx)⟩,by rw [RD,ht]⟩
 ·have h':¬ (bs.length:Int) > 2000:=by omega
  (repeat' (first
 | (first|refine Afz ?_|refine Abz ?_)
 | ((first|refine Agz ?_|refine Acz ?_|refine Amz ?_);simp (disch:=omega) only [push_cast,seval,h'])
 | (refine Adz ⟨.inr rfl,[160],[],_,by decide,rfl,?_⟩;(try simp (disch:=omega) only [push_cast,seval,↓Ahz,↓Aez,↓List.map_cons,↓List.map_nil,h']))))
  exact ⟨bs,⟨by omega,hb⟩,rfl⟩


theorem Jwz (bs:List Int)(p n:Int)(hb:okB bs)(hp:0≤p∧p≤1000000):BCall Tryz.prog 80 [.ref 0 2 0,.int .i64 n] [RD bs p] (fun r H'=>∃ x,0≤x∧(1≤n∧x<n∨n<1∧x=0∨x=0)∧r=.int .i64 x∧H'=[RD bs (p+1)]):=by
 refine Avz (pins:=[0]) (pin:=1) l80_eq rfl rfl rfl ?_
 obtain ⟨hp1,hp2⟩:=hp
 have hbl:=hb.1
 have ep:p+1-1=p:=by omega
 by_cases h1:n<1
 ·(repeat' (first
 | (first|refine Afz ?_|refine Abz ?_)
 | ((first|refine Agz ?_|refine Acz ?_);simp (disch:=omega) only [push_cast,seval,h1])
 | (refine Adz ⟨.inr rfl,[],[],_,by decide,rfl,?_⟩;(try simp (disch:=omega) only [push_cast,seval,↓Ahz,↓Aez,↓List.map_cons,↓List.map_nil,h1]))))
  exact ⟨0,by omega,by omega,rfl⟩
 by_cases h2:bs.length=0
 ·have h2':(bs.length:Int)=0:=by omega
  (repeat' (first
 | (first|refine Afz ?_|refine Abz ?_)
 | ((first|refine Agz ?_|refine Acz ?_);simp (disch:=omega) only [push_cast,seval,h1,h2'])
 | (refine Adz ⟨.inr rfl,[],[],_,by decide,rfl,?_⟩;(try simp (disch:=omega) only [push_cast,seval,↓Ahz,↓Aez,↓List.map_cons,↓List.map_nil,h1,h2']))))
  exact ⟨0,by omega,by omega,rfl⟩
 have h2':¬ (bs.length:Int)=0:=by omega
 have hn0:¬ n=0:=by omega
 by_cases h3:p<bs.length
 ·have hb1:=okB_at hb (i:=p.toNat) (by omega)
  have hw:=Loz hb1.1 (by omega)
  (repeat' (first
 | (first|refine Afz ?_|refine Abz ?_)
 | ((first|refine Agz ?_|refine Acz ?_|refine Amz ?_);simp (disch:=omega) only [push_cast,seval,ep,h1,h2',h3,hn0,hw])
 | (refine Adz ⟨.inr rfl,[],[],_,by decide,rfl,?_⟩;(try simp (disch:=omega) only [push_cast,seval,↓Ahz,↓Aez,↓List.map_cons,↓List.map_nil,ep,h1,h2',h3,hn0,hw]))))
  have:=Dgz hb1.1 (n:=n) (by omega)
  exact ⟨_,this.1,by omega,rfl⟩
 ·have q1:=Dgz hp1 (n:=(bs.length:Int)) (by omega)
  have q2:=Dgz (x:=p*7+3) (n:=(bs.length:Int)) (by omega) (by omega)
  have q3:=Dhz (x:=p) (y:=(bs.length:Int)) (by omega) hp1
  generalize hg1:p.tmod (bs.length:Int)=k1 at *
  generalize hg2:(p*7+3).tmod (bs.length:Int)=k2 at *
  generalize hg3:p.tdiv (bs.length:Int)=k3 at *
  have b1:=okB_at hb (i:=k1.toNat) (by omega)
  have b2:=okB_at hb (i:=k2.toNat) (by omega)
  have hw1:=Loz b1.1 (by omega)
  have hw2:=Loz b2.1 (by omega)
  generalize hd1:bs.getD k1.toNat 0=d1 at *
  generalize hd2:bs.getD k2.toNat 0=d2 at *
  have hX:0≤d1*131+d2*1117+p*29+k3*53∧d1*131+d2*1117+p*29+k3*53<1099511627776:=by omega
  have q4:=Dhz (x:=d1*131+d2*1117+p*29+k3*53) (y:=64) (by omega) hX.1
  have q5:=xor_bound hX (b:=(d1*131+d2*1117+p*29+k3*53).tdiv 64) (by omega)
  have q6:=Dgz q5.1 (n:=n) (by omega)
  (repeat' (first
 | (first|refine Afz ?_|refine Abz ?_)
 | ((first|refine Agz ?_|refine Arz (mid:=l80r7a) (post:=l80r7b) mixed (by decide) ?_|refine Acz ?_|refine Amz ?_);simp (disch:=omega) only [push_cast,seval,ep,h1,h2',h3,hn0,hg1,hg2,hg3,hd1,hd2,hw1,hw2])
 | (refine Adz ⟨.inr rfl,[],[],_,by decide,rfl,?_⟩;(try simp (disch:=omega) only [push_cast,seval,↓Ahz,↓Aez,↓List.map_cons,↓List.map_nil,ep,h1,h2',h3,hn0,hg1,hg2,hg3,hd1,hd2,hw1,hw2]))))
  exact ⟨_,q6.1,by omega,rfl⟩


theorem Huz (bs:List Int)(p:Int)(cs:List AV)(n:Nat)(hn:(unI cs).length=n)(hcs:cs=IL (unI cs))(hb:okB bs)(h1:1≤n∧n≤1000∧0≤p∧p≤1000000)(hxs:∀ y∈unI cs,-1000≤y∧y≤1000):BCall Tryz.prog 81 [.ref 0 2 0,.own 1 n 1] [RD bs p,cs] (fun r H'=>∃ x,x∈unI cs∧(-1000≤x∧x≤1000)∧r=.int .i64 x∧H'=[RD bs (p+1),cs]):=by
 subst hn
 generalize hxs':unI cs=xs at *
 subst hcs
 obtain ⟨h1,h2,h3⟩:=h1
 refine Avz (pins:=[0,1]) (pin:=2) l81_eq rfl rfl rfl ?_
 (repeat' ((first
 | (first|refine Afz ?_|refine Abz ?_)
 | (first|refine Agz ?_)
 | (first|((with_reducible refine A9z (f:=80) [0] true ?_);simp (disch:=omega) only [push_cast,seval];(refine I1z (id:=0) (Jwz _ _ _ ?_ ?_) (by (simp (disch:=omega) only [push_cast,seval])<;>rfl) ?_;(iterate 2 (exact sd));rintro _ _ ⟨x,hx0,hx1,rfl,rfl⟩)))
 | (refine Adz ⟨.inr rfl,[],[],_,by decide,rfl,?_⟩;(try simp (disch:=omega) only [push_cast,seval,↓Ahz,↓Aez,↓List.map_cons,↓List.map_nil])))<;>(try simp (disch:=omega) only [push_cast,seval])))
 have hm:=Ddz (xs:=xs) (j:=x.toNat) (by omega)
 exact ⟨_,hm,hxs _ hm,rfl⟩
theorem oneR_ok (bs:List Int)(p:Int)(cs:List AV)(n:Nat)(hn:(unI cs).length=n)(hcs:cs=IL (unI cs))(hb:okB bs)(h1:1≤n∧n≤1000∧0≤p∧p≤1000000)(hxs:∀ y∈unI cs,-1000≤y∧y≤1000):BCall Tryz.prog 81 [.ref 0 2 0,.rows false cs n] [RD bs p] (fun r H'=>∃ x,x∈unI cs∧(-1000≤x∧x≤1000)∧r=.int .i64 x∧H'=[RD bs (p+1)]):=by
 subst hn
 generalize hxs':unI cs=xs at *
 subst hcs
 obtain ⟨h1,h2,h3⟩:=h1
 refine Avz (pins:=[0]) (pin:=1) l81_eq rfl rfl rfl ?_
 (repeat' ((first
 | (first|refine Afz ?_|refine Abz ?_)
 | (first|refine Agz ?_)
 | (first|((with_reducible refine A9z (f:=80) [0] true ?_);simp (disch:=omega) only [push_cast,seval];(refine I1z (id:=0) (Jwz _ _ _ ?_ ?_) (by (simp (disch:=omega) only [push_cast,seval])<;>rfl) ?_;(iterate 2 (exact sd));rintro _ _ ⟨x,hx0,hx1,rfl,rfl⟩)))
 | (refine Adz ⟨.inr rfl,[],[],_,by decide,rfl,?_⟩;(try simp (disch:=omega) only [push_cast,seval,↓Ahz,↓Aez,↓List.map_cons,↓List.map_nil])))<;>(try simp (disch:=omega) only [push_cast,seval])))
 have hm:=Ddz (xs:=xs) (j:=x.toNat) (by omega)
 exact ⟨_,hm,hxs _ hm,rfl⟩

end Go.Proofs.YtfccepgibbdfaaaGreatDoor
namespace Go.Proofs.YtfccepgibbdfaaaGreatDoor
open VwM Vw Go
variable [SentA]
variable [PowA]

theorem Jlz (b:Int)(sh st:List Int)(n m:Nat)(d:Int)(hn:sh.length=n)(hb:n≤1099511627776):PCall Tryz.prog 136 [.agg [.int .i64 b,.rows false (IL sh) n,.rows false (IL st) m],.int .i64 d] (fun r=>r=.bool (decide (0≤d)&&decide (d≤(n:Int)-1))):=by
 subst hn
 refine Atz l136_eq rfl ?_
 (repeat' ((first
 | (first|refine Afz ?_|refine Abz ?_)
 | (first|refine Agz ?_)
 | (first|refine Ajz false ?_)
 | (first|(refine Aiz (Akz (A1z _ _ _)) ?_;rintro _ _ ⟨rfl,rfl⟩))
 | (refine Adz ⟨.inr rfl,_,rfl,?_⟩))<;>(try simp (disch:=omega) only [push_cast,seval])))


theorem Bjz (b:Int)(sh st:List Int)(n m:Nat)(hn:sh.length=n)(hm:st.length=m)(hb:n≤1099511627776∧m≤1099511627776):BCall Tryz.prog 64 [.agg [.int .i64 b,.rows false (IL sh) n,.rows false (IL st) m]] [] (OV b sh st):=by
 subst hn hm
 obtain ⟨hb1,hb2⟩:=hb
 refine Avz (pins:=[]) (pin:=0) l64_eq rfl rfl rfl ?_
 (repeat' ((first
 | (first|refine Afz ?_|refine Abz ?_)
 | (first|refine Agz ?_|refine Arz (mid:=l64r1a) (post:=l64r1b) mixed (by decide) ?_)
 | (first|refine Aqz false ?_)
 | (first|(refine Aoz (Foz _ _ ?_ ?_) ⟨_,_,rfl,rfl⟩ ?_;(iterate 2 (exact sd));rintro _ _ ⟨rfl,rfl⟩))
 | (refine Adz ⟨.inr rfl,[112,160],[],_,by decide,rfl,?_⟩;(try simp (disch:=omega) only [push_cast,seval,↓Ahz,↓Aez,↓List.map_cons,↓List.map_nil])))<;>(try simp (disch:=omega) only [push_cast,seval])))
 all_goals simp [OV]


theorem smade_ok (b:Int)(sh st:List Int)(n m:Nat)(hn:sh.length=n)(hm:st.length=m)(hb:n≤1099511627776∧m≤1099511627776):BCall Tryz.prog 138 [.agg [.int .i64 b,.rows false (IL sh) n,.rows false (IL st) m]] [] (MV (vV b sh st) b sh st):=by
 subst hn hm
 obtain ⟨hb1,hb2⟩:=hb
 refine Avz (pins:=[]) (pin:=0) l138_eq rfl rfl rfl ?_
 cases hv:vV b sh st with
 | false =>
  (repeat' ((first
 | (first|refine Afz ?_|refine Abz ?_)
 | (first|refine Agz ?_|refine Acz ?_)
 | (first|refine Ajz false ?_)
 | (first|(refine Aiz (Akz (A3z _ _ _ _ _ ?_ ?_ ?_)) ?_;(iterate 3 (exact sd));rintro _ _ ⟨rfl,rfl⟩))
 | (refine Adz ⟨.inr rfl,[16000,16016],[(16000,1),(16016,1)],_,by decide,rfl,?_⟩;(try simp (disch:=omega) only [push_cast,seval,↓Ahz,↓Aez,↓List.map_cons,↓List.map_nil,hv])))<;>(try simp (disch:=omega) only [push_cast,seval,hv])))
  all_goals simp [MV,MVB,MVL]
 | true =>
  (repeat' ((first
 | (first|refine Afz ?_|refine Abz ?_)
 | (first|refine Agz ?_|refine Acz ?_|refine Amz ?_)
 | (first|refine Ajz false ?_)
 | (first|(refine Aiz (Akz (A3z _ _ _ _ _ ?_ ?_ ?_)) ?_;(iterate 3 (exact sd));rintro _ _ ⟨rfl,rfl⟩)|(refine Aiz (Bjz _ _ _ _ _ ?_ ?_ ?_) ?_;(iterate 3 (exact sd));rintro _ _ ⟨rfl,rfl⟩))
 | (refine Adz ⟨.inr rfl,[144,145],[],_,by decide,rfl,?_⟩;(try simp (disch:=omega) only [push_cast,seval,↓Ahz,↓Aez,↓List.map_cons,↓List.map_nil,hv])))<;>(try simp (disch:=omega) only [push_cast,seval,hv])))
  all_goals simp [MV,MVB,MVL]


theorem stidy0_ok (b:Int)(sh st:List Int)(n m:Nat)(hn:sh.length=n)(hm:st.length=m)(hb:good4 sh∧pr sh=0):BCall Tryz.prog 156 [.agg [.int .i64 b,.own 0 n 1,.own 1 m 1]] [IL sh,IL st] (fun r H'=>r=.agg [.int .i64 0,.own 0 n 1,.own 2 n 1]∧H'=[IL sh,IL st,IL (List.replicate n 0)]):=by
 subst hn hm
 obtain ⟨hg,hz⟩:=hb
 have hl:=hg.2
 refine Avz (pins:=[0,1]) (pin:=2) l156_eq rfl rfl rfl ?_
 (repeat' ((first
 | (first|refine Afz ?_|refine Abz ?_)
 | (first|refine Agz ?_|refine Arz (mid:=l156r2a) (post:=l156r2b) mixed (by decide) ?_|refine Acz ?_)
 | (first|refine Ajz false ?_)
 | (first|(refine Aiz (Akz (Dqz _ _ ?_ ?_)) ?_;(iterate 2 (exact sd));rintro _ _ ⟨rfl,rfl⟩))
 | (refine Adz ⟨.inr rfl,[192],[],_,by decide,rfl,?_⟩;(try simp (disch:=omega) only [push_cast,seval,↓Ahz,↓Aez,↓List.map_cons,↓List.map_nil,hz])))<;>(try simp (disch:=omega) only [push_cast,seval,hz])))
 all_goals simp [IL]
theorem stidy1_ok (b:Int)(sh st:List Int)(n m:Nat)(hn:sh.length=n)(hm:st.length=m)(hb:good4 sh∧¬ pr sh=0):BCall Tryz.prog 156 [.agg [.int .i64 b,.own 0 n 1,.own 1 m 1]] [IL sh,IL st] (fun r H'=>r=.agg [.int .i64 b,.own 0 n 1,.own 1 m 1]∧H'=[IL sh,IL st]):=by
 subst hn hm
 obtain ⟨hg,hz⟩:=hb
 have hl:=hg.2
 refine Avz (pins:=[0,1]) (pin:=2) l156_eq rfl rfl rfl ?_
 (repeat' ((first
 | (first|refine Afz ?_|refine Abz ?_)
 | (first|refine Agz ?_|refine Acz ?_|refine Amz ?_)
 | (first|refine Ajz false ?_)
 | (first|(refine Aiz (Akz (Dqz _ _ ?_ ?_)) ?_;(iterate 2 (exact sd));rintro _ _ ⟨rfl,rfl⟩))
 | (refine Adz ⟨.inr rfl,[],[],_,by decide,rfl,?_⟩;(try simp (disch:=omega) only [push_cast,seval,↓Ahz,↓Aez,↓List.map_cons,↓List.map_nil,hz])))<;>(try simp (disch:=omega) only [push_cast,seval,hz])))

end Go.Proofs.YtfccepgibbdfaaaGreatDoor
namespace Go.Proofs.YtfccepgibbdfaaaGreatDoor
open VwM Vw Go
variable [SentA]
variable [PowA]

/-- Facts of a slice of a dimension,for the walks. -/
theorem cut_facts {b:Int}{sh st:List Int}{j:Nat}{f t w:Int}{hf ht:Bool}(hv:vV b sh st=true)(hj:j<sh.length)(hs:vS f t w hf ht=true) :
  (0≤sh.getD j 0∧sh.getD j 0≤60) ∧
  vR (pS (sFrom f (sh.getD j 0) w hf) (cutK (sh.getD j 0) f t w hf ht)) (pE (sFrom f (sh.getD j 0) w hf) w (cutK (sh.getD j 0) f t w hf ht)) (pC w (cutK (sh.getD j 0) f t w hf ht))=true ∧
  cntN (pS (sFrom f (sh.getD j 0) w hf) (cutK (sh.getD j 0) f t w hf ht)) (pE (sFrom f (sh.getD j 0) w hf) w (cutK (sh.getD j 0) f t w hf ht)) (pC w (cutK (sh.getD j 0) f t w hf ht))=cutK (sh.getD j 0) f t w hf ht ∧
  (-12000≤pS (sFrom f (sh.getD j 0) w hf) (cutK (sh.getD j 0) f t w hf ht)*st.getD j 0∧pS (sFrom f (sh.getD j 0) w hf) (cutK (sh.getD j 0) f t w hf ht)*st.getD j 0≤12000) ∧
  (-12000≤pC w (cutK (sh.getD j 0) f t w hf ht)*st.getD j 0∧pC w (cutK (sh.getD j 0) f t w hf ht)*st.getD j 0≤12000) ∧
  (∀ i:Nat,i<cutK (sh.getD j 0) f t w hf ht→-1000≤sFrom f (sh.getD j 0) w hf+(i:Int)*w∧sFrom f (sh.getD j 0) w hf+(i:Int)*w≤1000) ∧
  (cutK (sh.getD j 0) f t w hf ht:Int)≤60:=by
 obtain ⟨h1,h2,h3,-⟩:=Cmz.1 hv
 have hg:=(Cbz h1).1
 have hn:=Clz hg hj
 have hw:=Iaz.1 hs
 have hk:=Msz hn hs
 have hin:=fun i hi=>idx_in hn hs (i:=i) hi
 have hst:=K0z h2 hj
 have hb:∀ i:Nat,i<cutK (sh.getD j 0) f t w hf ht→-100≤sFrom f (sh.getD j 0) w hf+(i:Int)*w∧sFrom f (sh.getD j 0) w hf+(i:Int)*w≤100:=fun i hi=>by have:=hin i hi;omega
 have v1:=PR_valid (s:=sFrom f (sh.getD j 0) w hf) hw.2.2.2.1 hw.2.2.1 hb
 have v2:=cntN_PR (s:=sFrom f (sh.getD j 0) w hf) hw.2.2.2.1 hw.2.2.1 hb
 have v3:=E7z.1 v1
 have m1:=mul_bd (p:=100) (q:=60) (x:=pS (sFrom f (sh.getD j 0) w hf) (cutK (sh.getD j 0) f t w hf ht)) (y:=st.getD j 0) (by omega) (by omega)
 have m2:=mul_bd (p:=200) (q:=60) (x:=pC w (cutK (sh.getD j 0) f t w hf ht)) (y:=st.getD j 0) (by omega) (by omega)
 exact ⟨hn,v1,v2,by omega,by omega,fun i hi=>by have:=hb i hi;omega,by omega⟩


set_option maxHeartbeats 16000000 in
theorem scutDim_ok (b:Int)(sh st:List Int)(n m:Nat)(j:Nat)(f t w:Int)(hf ht:Bool)(hn:sh.length=n)(hm:st.length=m)(hb:vV b sh st=true∧j<n)(hs:vS f t w hf ht=true) :
  BCall Tryz.prog 139 [.agg [.int .i64 b,.rows false (IL sh) n,.rows false (IL st) m],.int .i64 j,slc f t w hf ht] [] (OV (cutB b sh st j f t w hf ht) (cutSh sh j f t w hf ht) (cutSt sh st j f t w hf ht)):=by
 subst hn hm
 obtain ⟨hv,hj⟩:=hb
 obtain ⟨c1,c2,c3,c4,c5,c6,c7⟩:=cut_facts hv hj hs
 obtain ⟨hok,hl⟩:=Dsz hv
 have hl4:=hok.1.1.2
 have hbb:=(Cmz.1 hv).2.2.1
 have hg:=Kbz hok.1.1 hj hs
 have hle:(sh.length≤1099511627776∧st.length≤1099511627776):=by omega
 have q1:cutK (sh.getD j 0) f t w hf ht≤1000:=by omega
 have hj2:j<st.length:=by omega
 have hsl:(sh.set j (cutK (sh.getD j 0) f t w hf ht:Int)).length=sh.length:=by simp
 have hK:cntN (sFrom f (sh.getD j 0) w hf) (sTo t (sh.getD j 0) w ht) w=cutK (sh.getD j 0) f t w hf ht:=rfl
 refine Avz (pins:=[]) (pin:=0) l139_eq rfl rfl rfl ?_
 by_cases hz:pr (cutSh sh j f t w hf ht)=0
 ·have e1:cutB b sh st j f t w hf ht=0:=if_pos hz
  have e2:cutSt sh st j f t w hf ht=List.replicate sh.length 0:=if_pos hz
  rw [e1,e2]
  unfold cutSh at hz hg ⊢
  generalize hkk:cutK (sh.getD j 0) f t w hf ht=k at *
  have hzg:=And.intro hg hz
  by_cases hk1:(k:Int)≤1
  ·(repeat' ((first
 | (first|refine Afz ?_|refine Abz ?_)
 | (first|refine Agz ?_|refine Arz (mid:=l139r2a) (post:=l139r2b) mixed (by decide) ?_|refine Arz (mid:=l139r5a) (post:=l139r5b) mixed (by decide) ?_|refine Arz (mid:=l139r6a) (post:=l139r6b) mixed (by decide) ?_|refine Acz ?_)
 | (first|((with_reducible refine A9z (f:=156) [176,177] false ?_);simp (disch:=omega) only [push_cast,seval,hK,c3,hk1,A2z,List.length_set,List.set_set];(refine E2z (id:=176) (id':=177) (by decide) (stidy0_ok _ _ _ _ _ ?_ ?_ ?_) (by (simp (disch:=omega) only [push_cast,seval,hK,c3,hk1,A2z,List.length_set,List.set_set])<;>rfl) (by (simp (disch:=omega) only [push_cast,seval,hK,c3,hk1,A2z,List.length_set,List.set_set])<;>rfl) ?_;(iterate 3 (exact sd));rintro _ _ ⟨rfl,rfl⟩)))
 | (first|refine Ajz false ?_|refine Aqz false ?_)
 | (first|((first|refine Aiz (Bjz _ _ _ _ _ ?_ ?_ ?_) ?_|refine Aoz (Akz (plainV (Bjz _ _ _ _ _ ?_ ?_ ?_))) ⟨_,_,rfl,rfl⟩ ?_);(iterate 3 (exact sd));rintro _ _ ⟨rfl,rfl⟩)|((first|refine Aiz (Coz _ _ _ _ _ _ ?_ ?_) ?_|refine Aoz (Akz (G1z (Coz _ _ _ _ _ _ ?_ ?_))) ⟨_,_,rfl,rfl⟩ ?_);(iterate 2 (exact sd));rintro _ _ ⟨rfl,rfl⟩)|((first|refine Aiz (Akz (Bhz _ _ _ ?_ ?_)) ?_|refine Aoz (Akz (Bhz _ _ _ ?_ ?_)) ⟨_,_,rfl,rfl⟩ ?_);(iterate 2 (exact sd));rintro _ _ ⟨rfl,rfl⟩)|((first|refine Aiz (Akz (Bhz _ _ _ ?_ ?_)) ?_|refine Aoz (Akz (Bhz _ _ _ ?_ ?_)) ⟨_,_,rfl,rfl⟩ ?_);(iterate 2 (exact sd));rintro _ _ ⟨rfl,rfl⟩)|((first|refine Aiz (Ccz _ _ _ ?_) ?_|refine Aoz (Akz (G1z (Ccz _ _ _ ?_))) ⟨_,_,rfl,rfl⟩ ?_);(exact sd);rintro _ _ ⟨rfl,rfl⟩))
 | (refine Adz ⟨.inr rfl,[176,960],[],_,by decide,rfl,?_⟩;(try simp (disch:=omega) only [push_cast,seval,↓Ahz,↓Aez,↓List.map_cons,↓List.map_nil,hK,c3,hk1,A2z,List.length_set,List.set_set])))<;>(try simp (disch:=omega) only [push_cast,seval,hK,c3,hk1,A2z,List.length_set,List.set_set])))
   all_goals (try (simp [OV];done))
  ·(repeat' ((first
 | (first|refine Afz ?_|refine Abz ?_)
 | (first|refine Agz ?_|refine Arz (mid:=l139r2a) (post:=l139r2b) mixed (by decide) ?_|refine Arz (mid:=l139r5a) (post:=l139r5b) mixed (by decide) ?_|refine Arz (mid:=l139r6a) (post:=l139r6b) mixed (by decide) ?_|refine Acz ?_|refine Amz ?_)
 | (first|((with_reducible refine A9z (f:=156) [176,177] false ?_);simp (disch:=omega) only [push_cast,seval,hK,c3,hk1,A2z,List.length_set,List.set_set];(refine E2z (id:=176) (id':=177) (by decide) (stidy0_ok _ _ _ _ _ ?_ ?_ ?_) (by (simp (disch:=omega) only [push_cast,seval,hK,c3,hk1,A2z,List.length_set,List.set_set])<;>rfl) (by (simp (disch:=omega) only [push_cast,seval,hK,c3,hk1,A2z,List.length_set,List.set_set])<;>rfl) ?_;(iterate 3 (exact sd));rintro _ _ ⟨rfl,rfl⟩)))
 | (first|refine Ajz false ?_|refine Aqz false ?_)
 | (first|((first|refine Aiz (Bjz _ _ _ _ _ ?_ ?_ ?_) ?_|refine Aoz (Akz (plainV (Bjz _ _ _ _ _ ?_ ?_ ?_))) ⟨_,_,rfl,rfl⟩ ?_);(iterate 3 (exact sd));rintro _ _ ⟨rfl,rfl⟩)|((first|refine Aiz (Coz _ _ _ _ _ _ ?_ ?_) ?_|refine Aoz (Akz (G1z (Coz _ _ _ _ _ _ ?_ ?_))) ⟨_,_,rfl,rfl⟩ ?_);(iterate 2 (exact sd));rintro _ _ ⟨rfl,rfl⟩)|((first|refine Aiz (Akz (Bhz _ _ _ ?_ ?_)) ?_|refine Aoz (Akz (Bhz _ _ _ ?_ ?_)) ⟨_,_,rfl,rfl⟩ ?_);(iterate 2 (exact sd));rintro _ _ ⟨rfl,rfl⟩)|((first|refine Aiz (Akz (Bhz _ _ _ ?_ ?_)) ?_|refine Aoz (Akz (Bhz _ _ _ ?_ ?_)) ⟨_,_,rfl,rfl⟩ ?_);(iterate 2 (exact sd));rintro _ _ ⟨rfl,rfl⟩)|((first|refine Aiz (Ccz _ _ _ ?_) ?_|refine Aoz (Akz (G1z (Ccz _ _ _ ?_))) ⟨_,_,rfl,rfl⟩ ?_);(exact sd);rintro _ _ ⟨rfl,rfl⟩))
 | (refine Adz ⟨.inr rfl,[176,960],[],_,by decide,rfl,?_⟩;(try simp (disch:=omega) only [push_cast,seval,↓Ahz,↓Aez,↓List.map_cons,↓List.map_nil,hK,c3,hk1,A2z,List.length_set,List.set_set])))<;>(try simp (disch:=omega) only [push_cast,seval,hK,c3,hk1,A2z,List.length_set,List.set_set])))
   all_goals (try (simp [OV];done))
 ·have e1:cutB b sh st j f t w hf ht=b+pS (sFrom f (sh.getD j 0) w hf) (cutK (sh.getD j 0) f t w hf ht)*st.getD j 0:=if_neg hz
  have e2:cutSt sh st j f t w hf ht=st.set j (cutX sh st j f t w hf ht):=if_neg hz
  rw [e1,e2]
  unfold cutSh at hz hg ⊢
  unfold cutX
  generalize hkk:cutK (sh.getD j 0) f t w hf ht=k at *
  have hzg:=And.intro hg hz
  by_cases hk1:(k:Int)≤1
  ·(repeat' ((first
 | (first|refine Afz ?_|refine Abz ?_)
 | (first|refine Agz ?_|refine Arz (mid:=l139r2a) (post:=l139r2b) mixed (by decide) ?_|refine Arz (mid:=l139r5a) (post:=l139r5b) mixed (by decide) ?_|refine Arz (mid:=l139r6a) (post:=l139r6b) mixed (by decide) ?_|refine Acz ?_)
 | (first|((with_reducible refine A9z (f:=156) [176,177] false ?_);simp (disch:=omega) only [push_cast,seval,hK,c3,hk1,A2z,List.length_set,List.set_set,List.length_replicate];(refine E2z (id:=176) (id':=177) (by decide) (stidy1_ok _ _ _ _ _ ?_ ?_ ?_) (by (simp (disch:=omega) only [push_cast,seval,hK,c3,hk1,A2z,List.length_set,List.set_set,List.length_replicate])<;>rfl) (by (simp (disch:=omega) only [push_cast,seval,hK,c3,hk1,A2z,List.length_set,List.set_set,List.length_replicate])<;>rfl) ?_;(iterate 3 (exact sd));rintro _ _ ⟨rfl,rfl⟩)))
 | (first|refine Ajz false ?_|refine Aqz false ?_)
 | (first|((first|refine Aiz (Bjz _ _ _ _ _ ?_ ?_ ?_) ?_|refine Aoz (Akz (plainV (Bjz _ _ _ _ _ ?_ ?_ ?_))) ⟨_,_,rfl,rfl⟩ ?_);(iterate 3 (exact sd));rintro _ _ ⟨rfl,rfl⟩)|((first|refine Aiz (Coz _ _ _ _ _ _ ?_ ?_) ?_|refine Aoz (Akz (G1z (Coz _ _ _ _ _ _ ?_ ?_))) ⟨_,_,rfl,rfl⟩ ?_);(iterate 2 (exact sd));rintro _ _ ⟨rfl,rfl⟩)|((first|refine Aiz (Akz (Bhz _ _ _ ?_ ?_)) ?_|refine Aoz (Akz (Bhz _ _ _ ?_ ?_)) ⟨_,_,rfl,rfl⟩ ?_);(iterate 2 (exact sd));rintro _ _ ⟨rfl,rfl⟩)|((first|refine Aiz (Akz (Bhz _ _ _ ?_ ?_)) ?_|refine Aoz (Akz (Bhz _ _ _ ?_ ?_)) ⟨_,_,rfl,rfl⟩ ?_);(iterate 2 (exact sd));rintro _ _ ⟨rfl,rfl⟩)|((first|refine Aiz (Ccz _ _ _ ?_) ?_|refine Aoz (Akz (G1z (Ccz _ _ _ ?_))) ⟨_,_,rfl,rfl⟩ ?_);(exact sd);rintro _ _ ⟨rfl,rfl⟩))
 | (refine Adz ⟨.inr rfl,[176,177],[],_,by decide,rfl,?_⟩;(try simp (disch:=omega) only [push_cast,seval,↓Ahz,↓Aez,↓List.map_cons,↓List.map_nil,hK,c3,hk1,A2z,List.length_set,List.set_set,List.length_replicate])))<;>(try simp (disch:=omega) only [push_cast,seval,hK,c3,hk1,A2z,List.length_set,List.set_set,List.length_replicate])))
   all_goals (try (simp [OV,hk1,hl];done))
  ·(repeat' ((first
 | (first|refine Afz ?_|refine Abz ?_)
 | (first|refine Agz ?_|refine Arz (mid:=l139r2a) (post:=l139r2b) mixed (by decide) ?_|refine Arz (mid:=l139r5a) (post:=l139r5b) mixed (by decide) ?_|refine Arz (mid:=l139r6a) (post:=l139r6b) mixed (by decide) ?_|refine Acz ?_|refine Amz ?_)
 | (first|((with_reducible refine A9z (f:=156) [176,177] false ?_);simp (disch:=omega) only [push_cast,seval,hK,c3,hk1,A2z,List.length_set,List.set_set,List.length_replicate];(refine E2z (id:=176) (id':=177) (by decide) (stidy1_ok _ _ _ _ _ ?_ ?_ ?_) (by (simp (disch:=omega) only [push_cast,seval,hK,c3,hk1,A2z,List.length_set,List.set_set,List.length_replicate])<;>rfl) (by (simp (disch:=omega) only [push_cast,seval,hK,c3,hk1,A2z,List.length_set,List.set_set,List.length_replicate])<;>rfl) ?_;(iterate 3 (exact sd));rintro _ _ ⟨rfl,rfl⟩)))
 | (first|refine Ajz false ?_|refine Aqz false ?_)
 | (first|((first|refine Aiz (Bjz _ _ _ _ _ ?_ ?_ ?_) ?_|refine Aoz (Akz (plainV (Bjz _ _ _ _ _ ?_ ?_ ?_))) ⟨_,_,rfl,rfl⟩ ?_);(iterate 3 (exact sd));rintro _ _ ⟨rfl,rfl⟩)|((first|refine Aiz (Coz _ _ _ _ _ _ ?_ ?_) ?_|refine Aoz (Akz (G1z (Coz _ _ _ _ _ _ ?_ ?_))) ⟨_,_,rfl,rfl⟩ ?_);(iterate 2 (exact sd));rintro _ _ ⟨rfl,rfl⟩)|((first|refine Aiz (Akz (Bhz _ _ _ ?_ ?_)) ?_|refine Aoz (Akz (Bhz _ _ _ ?_ ?_)) ⟨_,_,rfl,rfl⟩ ?_);(iterate 2 (exact sd));rintro _ _ ⟨rfl,rfl⟩)|((first|refine Aiz (Akz (Bhz _ _ _ ?_ ?_)) ?_|refine Aoz (Akz (Bhz _ _ _ ?_ ?_)) ⟨_,_,rfl,rfl⟩ ?_);(iterate 2 (exact sd));rintro _ _ ⟨rfl,rfl⟩)|((first|refine Aiz (Ccz _ _ _ ?_) ?_|refine Aoz (Akz (G1z (Ccz _ _ _ ?_))) ⟨_,_,rfl,rfl⟩ ?_);(exact sd);rintro _ _ ⟨rfl,rfl⟩))
 | (refine Adz ⟨.inr rfl,[176,177],[],_,by decide,rfl,?_⟩;(try simp (disch:=omega) only [push_cast,seval,↓Ahz,↓Aez,↓List.map_cons,↓List.map_nil,hK,c3,hk1,A2z,List.length_set,List.set_set,List.length_replicate])))<;>(try simp (disch:=omega) only [push_cast,seval,hK,c3,hk1,A2z,List.length_set,List.set_set,List.length_replicate])))
   all_goals (try (simp [OV,hk1,hl];done))

end Go.Proofs.YtfccepgibbdfaaaGreatDoor
namespace Go.Proofs.YtfccepgibbdfaaaGreatDoor
open VwM Vw Go
variable [SentA]
variable [PowA]

def sdOk (b:Int)(sh st:List Int)(d:Int)(f t w:Int)(hf ht:Bool):Bool :=
 vV b sh st&&(decide (0≤d)&&decide (d≤(sh.length:Int)-1))&&vS f t w hf ht&&vV (cutB b sh st d.toNat f t w hf ht) (cutSh sh d.toNat f t w hf ht) (cutSt sh st d.toNat f t w hf ht)
theorem fls_and {p q:Prop}[Decidable p][Decidable q](h:¬ (p∧q)):(decide p&&decide q)=false:=by
 rw [Bool.eq_false_iff];intro h';simp at h';exact h h'
theorem Lrz {p q:Prop}[Decidable p][Decidable q](h:p∧q):(decide p&&decide q)=true:=by simp [h.1,h.2]


theorem Ebz (b:Int)(sh st:List Int)(n m:Nat)(d:Int)(f t w:Int)(hf ht:Bool)(hn:sh.length=n)(hm:st.length=m)(hb:n≤1099511627776∧m≤1099511627776) :
  BCall Tryz.prog 117 [.agg [.int .i64 b,.rows false (IL sh) n,.rows false (IL st) m],.int .i64 d,slc f t w hf ht] [] (MV (sdOk b sh st d f t w hf ht) (cutB b sh st d.toNat f t w hf ht) (cutSh sh d.toNat f t w hf ht) (cutSt sh st d.toNat f t w hf ht)):=by
 subst hn hm
 obtain ⟨hb1,hb2⟩:=hb
 refine Avz (pins:=[]) (pin:=0) l117_eq rfl rfl rfl ?_
 cases hv:vV b sh st with
 | false =>
  have e:sdOk b sh st d f t w hf ht=false:=by simp [sdOk,hv]
  rw [e]
  (repeat' ((first
 | (first|refine Afz ?_|refine Abz ?_)
 | (first|refine Agz ?_|refine Acz ?_)
 | (first|refine Ajz false ?_)
 | (first|(refine Aiz (Akz (A3z _ _ _ _ _ ?_ ?_ ?_)) ?_;(iterate 3 (exact sd));rintro _ _ ⟨rfl,rfl⟩))
 | (refine Adz ⟨.inr rfl,[16000,16016],[(16000,1),(16016,1)],_,by decide,rfl,?_⟩;(try simp (disch:=omega) only [push_cast,seval,↓Ahz,↓Aez,↓List.map_cons,↓List.map_nil,hv])))<;>(try simp (disch:=omega) only [push_cast,seval,hv])))
  all_goals simp [MV,MVB,MVL]
 | true =>
 by_cases hd:0≤d∧d≤(sh.length:Int)-1
 ·cases hs:vS f t w hf ht with
  | false =>
   have e:sdOk b sh st d f t w hf ht=false:=by simp [sdOk,hs]
   have hd':=Lrz hd
   rw [e]
   (repeat' ((first
 | (first|refine Afz ?_|refine Abz ?_)
 | (first|refine Agz ?_|refine Acz ?_)
 | (first|refine Ajz false ?_)
 | (first|(refine Aiz (Akz (A3z _ _ _ _ _ ?_ ?_ ?_)) ?_;(iterate 3 (exact sd));rintro _ _ ⟨rfl,rfl⟩)|(refine Aiz (Akz (Jlz _ _ _ _ _ _ ?_ ?_)) ?_;(iterate 2 (exact sd));rintro _ _ ⟨rfl,rfl⟩)|(refine Aiz (Akz (G0z _ _ _ _ _)) ?_;rintro _ _ ⟨rfl,rfl⟩))
 | (refine Adz ⟨.inr rfl,[16000,16016],[(16000,1),(16016,1)],_,by decide,rfl,?_⟩;(try simp (disch:=omega) only [push_cast,seval,↓Ahz,↓Aez,↓List.map_cons,↓List.map_nil,hv,hd',hs])))<;>(try simp (disch:=omega) only [push_cast,seval,hv,hd',hs])))
   all_goals simp [MV,MVB,MVL]
  | true =>
   have hd':=Lrz hd
   obtain ⟨j,rfl⟩:∃ j:Nat,d=j:=⟨d.toNat,by omega⟩
   have hj:j<sh.length:=by omega
   have e:sdOk b sh st j f t w hf ht=vV (cutB b sh st j f t w hf ht) (cutSh sh j f t w hf ht) (cutSt sh st j f t w hf ht):=by simp only [sdOk,hv,hs,hd',Int.toNat_natCast,Bool.true_and]
   rw [e]
   simp only [Int.toNat_natCast]
   have hlen:=(Dsz hv).2
   have l1:=B0z sh j f t w hf ht
   have l2:=Gbz hlen j f t w hf ht
   have hq:(cutSh sh j f t w hf ht).length≤1099511627776∧(cutSt sh st j f t w hf ht).length≤1099511627776:=by omega
   (repeat' ((first
 | (first|refine Afz ?_|refine Abz ?_)
 | (first|refine Agz ?_|refine Acz ?_|refine Amz ?_)
 | (first|refine Ajz false ?_)
 | (first|(refine Aiz (Akz (A3z _ _ _ _ _ ?_ ?_ ?_)) ?_;(iterate 3 (exact sd));rintro _ _ ⟨rfl,rfl⟩)|(refine Aiz (Akz (Jlz _ _ _ _ _ _ ?_ ?_)) ?_;(iterate 2 (exact sd));rintro _ _ ⟨rfl,rfl⟩)|(refine Aiz (Akz (G0z _ _ _ _ _)) ?_;rintro _ _ ⟨rfl,rfl⟩)|(refine Aiz (scutDim_ok _ _ _ _ _ _ _ _ _ _ _ ?_ ?_ ?_ ?_) ?_;(iterate 4 (exact sd));rintro _ _ ⟨rfl,rfl⟩)|(refine Aiz (smade_ok _ _ _ _ _ ?_ ?_ ?_) ?_;(iterate 3 (exact sd));rintro _ _ ⟨rfl,rfl⟩))
 | (refine Adz ⟨.inr rfl,[432,433],[],_,by decide,rfl,?_⟩;(try simp (disch:=omega) only [push_cast,seval,↓Ahz,↓Aez,↓List.map_cons,↓List.map_nil,hv,hd',hs])))<;>(try simp (disch:=omega) only [push_cast,seval,hv,hd',hs])))
   all_goals exact ⟨rfl,rfl⟩
 ·have hd':=fls_and hd
  have e:sdOk b sh st d f t w hf ht=false:=by simp only [sdOk,hd',Bool.and_false,Bool.false_and]
  rw [e]
  (repeat' ((first
 | (first|refine Afz ?_|refine Abz ?_)
 | (first|refine Agz ?_|refine Acz ?_)
 | (first|refine Ajz false ?_)
 | (first|(refine Aiz (Akz (A3z _ _ _ _ _ ?_ ?_ ?_)) ?_;(iterate 3 (exact sd));rintro _ _ ⟨rfl,rfl⟩)|(refine Aiz (Akz (Jlz _ _ _ _ _ _ ?_ ?_)) ?_;(iterate 2 (exact sd));rintro _ _ ⟨rfl,rfl⟩))
 | (refine Adz ⟨.inr rfl,[16000,16016],[(16000,1),(16016,1)],_,by decide,rfl,?_⟩;(try simp (disch:=omega) only [push_cast,seval,↓Ahz,↓Aez,↓List.map_cons,↓List.map_nil,hv,hd'])))<;>(try simp (disch:=omega) only [push_cast,seval,hv,hd'])))
  all_goals simp [MV,MVB,MVL]


end Go.Proofs.YtfccepgibbdfaaaGreatDoor
namespace Go.Proofs.YtfccepgibbdfaaaGreatDoor
open VwM Vw Go
variable [SentA]
variable [PowA]

set_option maxHeartbeats 8000000 in
theorem Gfz (b:Int)(sh st:List Int)(n m:Nat)(hn:sh.length=n)(hm:st.length=m)(hb:m=n∧n≤1000):BCall Tryz.prog 126 [.agg [.int .i64 b,.rows false (IL sh) n,.rows false (IL st) m]] [] (fun r H'=>r=.agg [.int .i64 b,.rows false (IL sh) n,.rows false (IL st) m,.int .i64 0,.int .i64 0,.int .i64 0,.int .i64 0,.own 0 n 2]∧H'=[IL (dm sh st)]):=by
 subst hn hm
 obtain ⟨hb1,hb2⟩:=hb
 refine Avz (pins:=[]) (pin:=0) l126_eq rfl rfl rfl ?_
 (repeat' (first
 | (first|refine Afz ?_|refine Abz ?_)
 | ((first|refine Agz ?_);simp (disch:=omega) only [push_cast,seval])
 | (refine Adz ⟨.inr rfl,[416],[],_,by decide,rfl,?_⟩;(try simp (disch:=omega) only [push_cast,seval,↓Ahz,↓Aez,↓List.map_cons,↓List.map_nil]))))
 refine A5z (fun k:Nat=>if k=0 then mkS [(1,.ref 16 3 0),(2,.ref 32 8 0),(3,.ref 48 8 0),(9,RI sh),(10,.int .i64 sh.length),(11,.int .i64 0)] [(16,[.int .i64 b,RI sh,RI st]),(32,[.int .i64 0,.val (.slice none 0 0),.val (.slice none 0 0),.int .i64 0,.int .i64 0,.int .i64 0,.int .i64 0,.val (.slice none 0 0)]),(48,[.int .i64 b,RI sh,RI st,.int .i64 0,.int .i64 0,.int .i64 0,.int .i64 0,.val (.slice none 0 0)])]
  else mkS [(1,.ref 16 3 0),(2,.ref 32 8 0),(3,.ref 48 8 0),(9,RI sh),(10,.int .i64 sh.length),(11,.int .i64 k)] [(16,[.int .i64 b,RI sh,RI st]),(32,[.int .i64 0,.val (.slice none 0 0),.val (.slice none 0 0),.int .i64 0,.int .i64 0,.int .i64 0,.int .i64 0,.val (.slice none 0 0)]),(48,[.int .i64 b,RI sh,RI st,.int .i64 0,.int .i64 0,.int .i64 0,.int .i64 0,.own 416 k 2]),(416,IL (dm (sh.take k) (st.take k)))])
  (fun k=>k≤sh.length) (fun k=>sh.length-k) 0 (Nat.zero_le _) ?_ ?_
 ·rw [if_pos rfl]
  (refine Sub.of_lists ?_ ?_ ?_ ?_ ?_<;>simp [Vw.mkS,Vw.lk,Vw.hk,AV.inn,innL,Apz,Anz,Asz,-List.map_set,-List.getD_eq_getElem?_getD])
 ·intro k hk
  by_cases hlt:k<sh.length
  ·have e1:=dm_take hlt hb1
   have hlt2:k<st.length:=by omega
   by_cases h0:k=0
   ·subst h0
    rw [if_pos rfl]
    have hs0:0<sh.length:=hlt
    have e2:[AV.int .i64 (sh.getD 0 0),AV.int .i64 (st.getD 0 0)]=IL (dm (sh.take (0+1)) (st.take (0+1))):=by rw [← e1];simp [dm]
    (repeat' (first
 | (first|refine Afz ?_|refine Abz ?_)
 | ((first|refine Agz ?_|refine Arz (mid:=l126r5a) (post:=l126r5b) mixed (by decide) ?_|refine Acz ?_|refine Amz ?_);simp (disch:=omega) only [push_cast,seval,Int.natCast_zero])
 | ((first|refine Alz (fun h=>?_) (fun h=>?_))<;>(try simp only [h])<;>(try simp only [bitvec_to_nat] at h)<;>(try simp only [h])<;>(first|(exfalso;omega)|(exfalso;simp_all;done)|(simp (disch:=omega) only [push_cast,seval,Int.natCast_zero])|skip))
 | (refine Adz ⟨.inr rfl,[],[],_,by decide,rfl,?_⟩;(try simp (disch:=omega) only [push_cast,seval,↓Ahz,↓Aez,↓List.map_cons,↓List.map_nil,Int.natCast_zero]))))
    refine ⟨0+1,by omega,by omega,?_⟩
    rw [if_neg (by omega),← e2]
    (refine Sub.of_lists ?_ ?_ ?_ ?_ ?_<;>simp [Vw.mkS,Vw.lk,Vw.hk,AV.inn,innL,Apz,Anz,Asz,-List.map_set,-List.getD_eq_getElem?_getD])
   ·rw [if_neg h0]
    have e3:(dm (sh.take k) (st.take k)).length=k*2:=by rw [Ctz (by simp;omega)];simp;omega
    generalize hq1:dm (sh.take k) (st.take k)=q1 at *
    (repeat' (first
 | (first|refine Afz ?_|refine Abz ?_)
 | ((first|refine Agz ?_|refine Arz (mid:=l126r5a) (post:=l126r5b) mixed (by decide) ?_|refine Acz ?_|refine Amz ?_);simp (disch:=omega) only [push_cast,seval,e3,snoc2])
 | ((first|refine Alz (fun h=>?_) (fun h=>?_))<;>(try simp only [h])<;>(try simp only [bitvec_to_nat] at h)<;>(try simp only [h])<;>(first|(exfalso;omega)|(exfalso;simp_all;done)|(simp (disch:=omega) only [push_cast,seval,e3,snoc2])|skip))
 | (refine Adz ⟨.inr rfl,[],[],_,by decide,rfl,?_⟩;(try simp (disch:=omega) only [push_cast,seval,↓Ahz,↓Aez,↓List.map_cons,↓List.map_nil,e3,snoc2]))))
    refine ⟨k+1,by omega,by omega,?_⟩
    rw [if_neg (by omega),← e1]
    (refine Sub.of_lists ?_ ?_ ?_ ?_ ?_<;>simp [Vw.mkS,Vw.lk,Vw.hk,AV.inn,innL,Apz,Anz,Asz,-List.map_set,-List.getD_eq_getElem?_getD,e3])
  ·have hke:k=sh.length:=by omega
   have ht:sh.take k=sh:=List.take_of_length_le (by omega)
   have ht2:st.take k=st:=List.take_of_length_le (by omega)
   by_cases h0:k=0
   ·subst h0
    rw [if_pos rfl]
    have hL:(sh.length:Int)=0:=by omega
    have hLn:sh.length=0:=by omega
    clear ht ht2 hk hlt hke
    (repeat' (first
 | (first|refine Afz ?_|refine Abz ?_)
 | ((first|refine Agz ?_|refine Acz ?_|refine Azz ?_);simp (disch:=omega) only [push_cast,seval,hL])
 | (refine Adz ⟨.inr rfl,[16000],[(16000,2)],_,by decide,rfl,?_⟩;(try simp (disch:=omega) only [push_cast,seval,↓Ahz,↓Aez,↓List.map_cons,↓List.map_nil,hL]))))
    have ho:sh=[]:=List.length_eq_zero_iff.1 hLn
    have ho2:st=[]:=List.length_eq_zero_iff.1 (by omega)
    all_goals simp [ho,ho2,dm]
   ·rw [if_neg h0,ht,ht2]
    (repeat' (first
 | (first|refine Afz ?_|refine Abz ?_)
 | ((first|refine Agz ?_|refine Acz ?_|refine Azz ?_);simp (disch:=omega) only [push_cast,seval,hke])
 | ((first|refine Alz (fun h=>?_) (fun h=>?_))<;>(try simp only [h])<;>(try simp only [bitvec_to_nat] at h)<;>(try simp only [h])<;>(first|(exfalso;omega)|(exfalso;simp_all;done)|(simp (disch:=omega) only [push_cast,seval,hke])|skip))
 | (refine Adz ⟨.inr rfl,[416],[],_,by decide,rfl,?_⟩;(try simp (disch:=omega) only [push_cast,seval,↓Ahz,↓Aez,↓List.map_cons,↓List.map_nil,hke]))))
    all_goals simp


set_option maxHeartbeats 8000000 in
theorem partview_ok (b:Int)(sh st:List Int)(f:Nat→Int)(D E:List Int)(n m k:Nat)(hm:st.length=m)(hk:E.length=D.length∧D.length=k)(hb:(m≤4∧(-1000000≤b∧b≤1000000)∧∀ i,i<m→(-60≤f i∧f i≤60)∧-12960000≤st.getD i 0∧st.getD i 0≤12960000)∧k≤1000) :
  BCall Tryz.prog 146 [.agg [.int .i64 b,.rows false (IL sh) n,.rows false (IL st) m,.int .i64 (f 0),.int .i64 (f 1),.int .i64 (f 2),.int .i64 (f 3),.rows false (IL (dm D E)) k]] [] (OV (b+dot f st m) D E):=by
 obtain ⟨hk1,hk2⟩:=hk
 subst hm hk2
 obtain ⟨hb1,hb2⟩:=hb
 have eF:[AV.int .i64 (f 0),.int .i64 (f 1),.int .i64 (f 2),.int .i64 (f 3)]=IL (pad4 f):=rfl
 have hD:=Ctz hk1
 refine Avz (pins:=[]) (pin:=0) l146_eq rfl rfl rfl ?_
 (repeat' ((first
 | (first|refine Afz ?_|refine Abz ?_)
 | (first|refine Agz ?_)
 | (first|refine Ajz false ?_)
 | (first|(refine Aiz (Akz (cell_ok _ _ _ _ _ _ ?_ ?_)) ?_;(iterate 2 (exact sd));rintro _ _ ⟨rfl,rfl⟩))
 | (refine Adz ⟨.inr rfl,[384,496],[],_,by decide,rfl,?_⟩;(try simp (disch:=omega) only [push_cast,seval,↓Ahz,↓Aez,↓List.map_cons,↓List.map_nil,eF])))<;>(try simp (disch:=omega) only [push_cast,seval,eF])))
 generalize hB:b+dot f st st.length=B
 refine A5z (fun j:Nat=>if j=0 then mkS [(2,.ref 32 3 0),(3,.ref 48 3 0),(13,.rows false (IL (dm D E)) D.length),(14,.int .i64 D.length),(15,.int .i64 0)] [(32,[.int .i64 0,.val (.slice none 0 0),.val (.slice none 0 0)]),(48,[.int .i64 B,.val (.slice none 0 0),.val (.slice none 0 0)])]
  else mkS [(2,.ref 32 3 0),(3,.ref 48 3 0),(13,.rows false (IL (dm D E)) D.length),(14,.int .i64 D.length),(15,.int .i64 j)] [(32,[.int .i64 0,.val (.slice none 0 0),.val (.slice none 0 0)]),(48,[.int .i64 B,.own 384 j 1,.own 496 j 1]),(384,IL (D.take j)),(496,IL (E.take j))])
  (fun j=>j≤D.length) (fun j=>D.length-j) 0 (Nat.zero_le _) ?_ ?_
 ·rw [if_pos rfl]
  (refine Sub.of_lists ?_ ?_ ?_ ?_ ?_<;>simp [Vw.mkS,Vw.lk,Vw.hk,AV.inn,innL,Apz,Anz,Asz,-List.map_set,-List.getD_eq_getElem?_getD])
 ·intro j hj
  by_cases hlt:j<D.length
  ·have g1:=dm_even hlt hk1
   have g2:=dm_odd hlt hk1
   have s1:=B1z D j hlt
   have s2:=B1z E j (by omega)
   have hq:j*2+2≤(dm D E).length:=by omega
   have hq2:(dm D E).length=D.length*2:=hD
   generalize dm D E=L at *
   by_cases h0:j=0
   ·subst h0
    rw [if_pos rfl]
    have hs0:0<D.length:=hlt
    simp only [Nat.zero_mul,Nat.zero_add] at g1 g2 hq
    (repeat' (first
 | (first|refine Afz ?_|refine Abz ?_)
 | ((first|refine Agz ?_|refine Acz ?_|refine Amz ?_);simp (disch:=omega) only [push_cast,seval,Int.natCast_zero,g1,g2,Nat.zero_mul])
 | ((first|refine Alz (fun h=>?_) (fun h=>?_))<;>(try simp only [h])<;>(try simp only [bitvec_to_nat] at h)<;>(try simp only [h])<;>(first|(exfalso;omega)|(exfalso;simp_all;done)|(simp (disch:=omega) only [push_cast,seval,Int.natCast_zero,g1,g2,Nat.zero_mul])|skip))
 | (refine Adz ⟨.inr rfl,[],[],_,by decide,rfl,?_⟩;(try simp (disch:=omega) only [push_cast,seval,↓Ahz,↓Aez,↓List.map_cons,↓List.map_nil,Int.natCast_zero,g1,g2,Nat.zero_mul]))))
    refine ⟨0+1,by omega,by omega,?_⟩
    rw [if_neg (by omega),s1,s2]
    simp only [List.take_zero]
    (refine Sub.of_lists ?_ ?_ ?_ ?_ ?_<;>simp [Vw.mkS,Vw.lk,Vw.hk,AV.inn,innL,Apz,Anz,Asz,-List.map_set,-List.getD_eq_getElem?_getD])
   ·rw [if_neg h0]
    have e3:(D.take j).length=j:=by simp;omega
    have e4:(E.take j).length=j:=by simp;omega
    generalize D.take j=q1 at *
    generalize E.take j=q2 at *
    (repeat' (first
 | (first|refine Afz ?_|refine Abz ?_)
 | ((first|refine Agz ?_|refine Acz ?_|refine Amz ?_);simp (disch:=omega) only [push_cast,seval,g1,g2,e3,e4])
 | ((first|refine Alz (fun h=>?_) (fun h=>?_))<;>(try simp only [h])<;>(try simp only [bitvec_to_nat] at h)<;>(try simp only [h])<;>(first|(exfalso;omega)|(exfalso;simp_all;done)|(simp (disch:=omega) only [push_cast,seval,g1,g2,e3,e4])|skip))
 | (refine Adz ⟨.inr rfl,[],[],_,by decide,rfl,?_⟩;(try simp (disch:=omega) only [push_cast,seval,↓Ahz,↓Aez,↓List.map_cons,↓List.map_nil,g1,g2,e3,e4]))))
    refine ⟨j+1,by omega,by omega,?_⟩
    rw [if_neg (by omega),s1,s2]
    (refine Sub.of_lists ?_ ?_ ?_ ?_ ?_<;>simp [Vw.mkS,Vw.lk,Vw.hk,AV.inn,innL,Apz,Anz,Asz,-List.map_set,-List.getD_eq_getElem?_getD,e3,e4])
  ·have hke:j=D.length:=by omega
   have ht:D.take j=D:=List.take_of_length_le (by omega)
   have ht2:E.take j=E:=List.take_of_length_le (by omega)
   by_cases h0:j=0
   ·subst h0
    rw [if_pos rfl]
    have hL:(D.length:Int)=0:=by omega
    have hLn:D.length=0:=by omega
    clear ht ht2 hj hlt hke
    (repeat' (first
 | (first|refine Afz ?_|refine Abz ?_)
 | ((first|refine Agz ?_|refine Acz ?_|refine Azz ?_);simp (disch:=omega) only [push_cast,seval,hL])
 | (refine Adz ⟨.inr rfl,[16000,16016],[(16000,1),(16016,1)],_,by decide,rfl,?_⟩;(try simp (disch:=omega) only [push_cast,seval,↓Ahz,↓Aez,↓List.map_cons,↓List.map_nil,hL]))))
    have ho:D=[]:=List.length_eq_zero_iff.1 hLn
    have ho2:E=[]:=List.length_eq_zero_iff.1 (by omega)
    all_goals simp [OV,ho,ho2]
   ·rw [if_neg h0,ht,ht2]
    have hEl:E.length=j:=by omega
    (repeat' (first
 | (first|refine Afz ?_|refine Abz ?_)
 | ((first|refine Agz ?_|refine Acz ?_|refine Azz ?_);simp (disch:=omega) only [push_cast,seval,hke,hEl])
 | ((first|refine Alz (fun h=>?_) (fun h=>?_))<;>(try simp only [h])<;>(try simp only [bitvec_to_nat] at h)<;>(try simp only [h])<;>(first|(exfalso;omega)|(exfalso;simp_all;done)|(simp (disch:=omega) only [push_cast,seval,hke,hEl])|skip))
 | (refine Adz ⟨.inr rfl,[384,496],[],_,by decide,rfl,?_⟩;(try simp (disch:=omega) only [push_cast,seval,↓Ahz,↓Aez,↓List.map_cons,↓List.map_nil,hke,hEl]))))
    all_goals simp [OV,hk1]
theorem Iuz (b:Int)(sh st:List Int)(p0 p1 p2 p3:Int)(D E:List Int)(n m k:Nat)(hm:st.length=m)(hk:E.length=D.length∧D.length=k)(hb:(m≤4∧(-1000000≤b∧b≤1000000)∧∀ i,i<m→(-60≤at4 p0 p1 p2 p3 i∧at4 p0 p1 p2 p3 i≤60)∧-12960000≤st.getD i 0∧st.getD i 0≤12960000)∧k≤1000) :
  BCall Tryz.prog 146 [.agg [.int .i64 b,.rows false (IL sh) n,.rows false (IL st) m,.int .i64 p0,.int .i64 p1,.int .i64 p2,.int .i64 p3,.rows false (IL (dm D E)) k]] [] (OV (b+dot (at4 p0 p1 p2 p3) st m) D E) :=
 partview_ok b sh st (at4 p0 p1 p2 p3) D E n m k hm hk hb


end Go.Proofs.YtfccepgibbdfaaaGreatDoor
