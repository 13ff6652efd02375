/- Texts of this verifier. -/
import Derived.Test.YtapccmfnmiopoaaGreatCB3
import Derived.Test.YtapccmfnmiopoaaGreatCM1
import Derived.Test.YtapccmfnmiopoaaGreatCW3
set_option maxHeartbeats 4000000
set_option linter.unusedSimpArgs false
set_option linter.unusedVariables false
set_option maxRecDepth 4000
namespace Go.Proofs.YtapccmfnmiopoaaGreat
open VwM Vw Go

theorem Dkz (b:Int)(sh st:List Int)(n m:Nat)(d:Int)(hn:sh.length=n)(hb:n≤1099511627776):PCall Tryz.prog 96 [.agg [.int .i64 b,.rows false (IL sh) n,.rows false (IL st) m],.int .i64 d] (fun r=>r=.bool (decide (0≤d)&&decide (d≤(n:Int)-1))):=by
 subst hn
 refine Axz l96_eq rfl ?_
 (repeat' ((first
 | (first|refine Afz ?_|refine Aaz ?_)
 | (first|refine Agz ?_)
 | (first|refine Anz false ?_)
 | (first|(refine Akz (Apz (Bvz _ _ _)) ?_;rintro _ _ ⟨rfl,rfl⟩))
 | (refine Acz ⟨.inr rfl,_,rfl,?_⟩))<;>(try simp (disch:=omega) only [push_cast,seval])))


theorem Blz (b:Int)(sh st:List Int)(n m:Nat)(hn:sh.length=n)(hm:st.length=m)(hb:n≤1099511627776∧m≤1099511627776):BCall Tryz.prog 90 [.agg [.int .i64 b,.rows false (IL sh) n,.rows false (IL st) m]] [] (OV b sh st):=by
 subst hn hm
 obtain ⟨hb1,hb2⟩:=hb
 refine Awz (pins:=[]) (pin:=0) l90_eq rfl rfl rfl ?_
 (repeat' ((first
 | (first|refine Afz ?_|refine Aaz ?_)
 | (first|refine Agz ?_|refine Auz (mid:=l90r1a) (post:=l90r1b) Bfz (by decide) ?_)
 | (first|refine A7z false ?_)
 | (first|(refine Asz (Ctz _ _ ?_ ?_) ⟨_,_,rfl,rfl⟩ ?_;(iterate 2 (exact sd));rintro _ _ ⟨rfl,rfl⟩))
 | (refine Acz ⟨.inr rfl,[112,160],[],_,by decide,rfl,?_⟩;(try simp (disch:=omega) only [push_cast,seval,↓Adz,↓Abz,↓List.map_cons,↓List.map_nil])))<;>(try simp (disch:=omega) only [push_cast,seval])))
 all_goals simp [OV]


theorem Gez (b:Int)(sh st:List Int)(n m:Nat)(hn:sh.length=n)(hm:st.length=m)(hb:n≤1099511627776∧m≤1099511627776):BCall Tryz.prog 98 [.agg [.int .i64 b,.rows false (IL sh) n,.rows false (IL st) m]] [] (MV (vV b sh st) b sh st):=by
 subst hn hm
 obtain ⟨hb1,hb2⟩:=hb
 refine Awz (pins:=[]) (pin:=0) l98_eq rfl rfl rfl ?_
 cases hv:vV b sh st with
 | false =>
  (repeat' ((first
 | (first|refine Afz ?_|refine Aaz ?_)
 | (first|refine Agz ?_|refine Aez ?_)
 | (first|refine Anz false ?_)
 | (first|(refine Akz (Apz (Azz _ _ _ _ _ ?_ ?_ ?_)) ?_;(iterate 3 (exact sd));rintro _ _ ⟨rfl,rfl⟩))
 | (refine Acz ⟨.inr rfl,[16000,16016],[(16000,1),(16016,1)],_,by decide,rfl,?_⟩;(try simp (disch:=omega) only [push_cast,seval,↓Adz,↓Abz,↓List.map_cons,↓List.map_nil,hv])))<;>(try simp (disch:=omega) only [push_cast,seval,hv])))
  all_goals simp [MV,MVB,MVL]
 | true =>
  (repeat' ((first
 | (first|refine Afz ?_|refine Aaz ?_)
 | (first|refine Agz ?_|refine Aez ?_|refine Aoz ?_)
 | (first|refine Anz false ?_)
 | (first|(refine Akz (Apz (Azz _ _ _ _ _ ?_ ?_ ?_)) ?_;(iterate 3 (exact sd));rintro _ _ ⟨rfl,rfl⟩)|(refine Akz (Blz _ _ _ _ _ ?_ ?_ ?_) ?_;(iterate 3 (exact sd));rintro _ _ ⟨rfl,rfl⟩))
 | (refine Acz ⟨.inr rfl,[144,145],[],_,by decide,rfl,?_⟩;(try simp (disch:=omega) only [push_cast,seval,↓Adz,↓Abz,↓List.map_cons,↓List.map_nil,hv])))<;>(try simp (disch:=omega) only [push_cast,seval,hv])))
  all_goals simp [MV,MVB,MVL]


theorem stidy0_ok (b:Int)(sh st:List Int)(n m:Nat)(hn:sh.length=n)(hm:st.length=m)(hb:good4 sh∧pr sh=0):BCall Tryz.prog 107 [.agg [.int .i64 b,.own 0 n 1,.own 1 m 1]] [IL sh,IL st] (fun r H'=>r=.agg [.int .i64 0,.own 0 n 1,.own 2 n 1]∧H'=[IL sh,IL st,IL (List.replicate n 0)]):=by
 subst hn hm
 obtain ⟨hg,hz⟩:=hb
 have hl:=hg.2
 refine Awz (pins:=[0,1]) (pin:=2) l107_eq rfl rfl rfl ?_
 (repeat' ((first
 | (first|refine Afz ?_|refine Aaz ?_)
 | (first|refine Agz ?_|refine Auz (mid:=l107r2a) (post:=l107r2b) Bfz (by decide) ?_|refine Aez ?_)
 | (first|refine Anz false ?_)
 | (first|(refine Akz (Apz (B1z _ _ ?_ ?_)) ?_;(iterate 2 (exact sd));rintro _ _ ⟨rfl,rfl⟩))
 | (refine Acz ⟨.inr rfl,[192],[],_,by decide,rfl,?_⟩;(try simp (disch:=omega) only [push_cast,seval,↓Adz,↓Abz,↓List.map_cons,↓List.map_nil,hz])))<;>(try simp (disch:=omega) only [push_cast,seval,hz])))
 all_goals simp [IL]
theorem stidy1_ok (b:Int)(sh st:List Int)(n m:Nat)(hn:sh.length=n)(hm:st.length=m)(hb:good4 sh∧¬ pr sh=0):BCall Tryz.prog 107 [.agg [.int .i64 b,.own 0 n 1,.own 1 m 1]] [IL sh,IL st] (fun r H'=>r=.agg [.int .i64 b,.own 0 n 1,.own 1 m 1]∧H'=[IL sh,IL st]):=by
 subst hn hm
 obtain ⟨hg,hz⟩:=hb
 have hl:=hg.2
 refine Awz (pins:=[0,1]) (pin:=2) l107_eq rfl rfl rfl ?_
 (repeat' ((first
 | (first|refine Afz ?_|refine Aaz ?_)
 | (first|refine Agz ?_|refine Aez ?_|refine Aoz ?_)
 | (first|refine Anz false ?_)
 | (first|(refine Akz (Apz (B1z _ _ ?_ ?_)) ?_;(iterate 2 (exact sd));rintro _ _ ⟨rfl,rfl⟩))
 | (refine Acz ⟨.inr rfl,[],[],_,by decide,rfl,?_⟩;(try simp (disch:=omega) only [push_cast,seval,↓Adz,↓Abz,↓List.map_cons,↓List.map_nil,hz])))<;>(try simp (disch:=omega) only [push_cast,seval,hz])))


theorem Jnz (xs:List Int)(n:Nat)(k:Nat)(x:Int)(hn:xs.length=n)(hb:k≤n∧n≤1099511000000):BCall Tryz.prog 102 [.rows false (IL xs) n,.int .i64 k,.int .i64 x] [] (OI (ins xs k x)):=by
 subst hn
 obtain ⟨hb1,hb2⟩:=hb
 have hl:=G9z x hb1
 refine Awz (pins:=[]) (pin:=0) l102_eq rfl rfl rfl ?_
 have hmin:min k xs.length=k:=by omega
 have hl2:(xs.take k).length=k:=by simp;omega
 have hl3:(xs.drop k).length=xs.length-k:=by simp
 have hl5:(List.map (AV.int .i64) (xs.take k)++[AV.int .i64 x]).length=k+1:=by simp;omega
 have hl6:∀ ys:List Int,List.map (AV.int .i64) ys++[AV.int .i64 x]=List.map (AV.int .i64) (ys++[x]):=fun ys=>by simp
 have hl7:(xs.take k++[x]).length=k+1:=by simp;omega
 (repeat' (first
 | (first|refine Afz ?_|refine Aaz ?_)
 | ((first|refine Agz ?_|refine Cgz (mid:=l102r1a) (post:=l102r1b) [112] Bfz (by decide) ?_);simp (disch:=omega) only [push_cast,seval,C0z,IL_tail,Nat.sub_zero,hmin,hl2,hl3,hl5,hl6,hl7,← List.map_append])
 | (refine Acz ⟨.inr rfl,[112],[],_,by decide,rfl,?_⟩;(try simp (disch:=omega) only [push_cast,seval,↓Adz,↓Abz,↓List.map_cons,↓List.map_nil,C0z,IL_tail,Nat.sub_zero,hmin,hl2,hl3,hl5,hl6,hl7,← List.map_append]))))
 have hl4:xs.take k++[x]++xs.drop k=ins xs k x:=by simp [ins]
 all_goals simp only [OI,hl4,hl]
 all_goals (refine ⟨?_,trivial⟩;congr 1;omega)


theorem supTo_ok (n:Nat)(hb:n≤1000):BCall Tryz.prog 87 [.int .i64 n] [] (OI (nums 0 1 n)):=by
 refine Awz (pins:=[]) (pin:=0) l87_eq rfl rfl rfl ?_
 (repeat' (first
 | (first|refine Afz ?_|refine Aaz ?_)
 | ((first|refine Agz ?_);simp (disch:=omega) only [push_cast,seval])
 | (refine Acz ⟨.inr rfl,[80],[],_,by decide,rfl,?_⟩;(try simp (disch:=omega) only [push_cast,seval,↓Adz,↓Abz,↓List.map_cons,↓List.map_nil]))))
 refine A0z (fun k:Nat=>mkS [(0,.int .i64 n),(3,.own 80 k 1),(4,.int .i64 k)] [(80,IL (nums 0 1 k))]) (fun k=>k≤n) (fun k=>n-k) 0 (Nat.zero_le _) ?_ ?_
 ·(refine Sub.of_lists ?_ ?_ ?_ ?_ ?_<;>simp [Vw.mkS,Vw.lk,Vw.hk,AV.inn,innL,Ajz,Ahz,Alz,-List.map_set,-List.getD_eq_getElem?_getD,Gkz])
 ·intro k hk
  have hl:=Chz 0 1 k
  have e:nums 0 1 (k+1)=nums 0 1 k++[(k:Int)]:=by rw [Glz];simp
  by_cases hlt:k<n
  ·(repeat' (first
 | (first|refine Afz ?_|refine Aaz ?_)
 | ((first|refine Agz ?_|refine Aez ?_|refine Aoz ?_);simp (disch:=omega) only [push_cast,seval,hl])
 | ((first|refine Aiz (fun h=>?_) (fun h=>?_))<;>(try simp only [h])<;>(try simp only [bitvec_to_nat] at h)<;>(try simp only [h])<;>(first|(exfalso;omega)|(exfalso;simp_all;done)|(simp (disch:=omega) only [push_cast,seval,hl])|skip))
 | (refine Acz ⟨.inr rfl,[80],[],_,by decide,rfl,?_⟩;(try simp (disch:=omega) only [push_cast,seval,↓Adz,↓Abz,↓List.map_cons,↓List.map_nil,hl]))))
   refine ⟨k+1,by omega,by omega,?_⟩
   (refine Sub.of_lists ?_ ?_ ?_ ?_ ?_<;>simp [Vw.mkS,Vw.lk,Vw.hk,AV.inn,innL,Ajz,Ahz,Alz,-List.map_set,-List.getD_eq_getElem?_getD,e])
  ·have:k=n:=by omega
   subst this
   (repeat' (first
 | (first|refine Afz ?_|refine Aaz ?_)
 | ((first|refine Agz ?_|refine Aez ?_|refine Atz ?_);simp (disch:=omega) only [push_cast,seval,hl])
 | ((first|refine Aiz (fun h=>?_) (fun h=>?_))<;>(try simp only [h])<;>(try simp only [bitvec_to_nat] at h)<;>(try simp only [h])<;>(first|(exfalso;omega)|(exfalso;simp_all;done)|(simp (disch:=omega) only [push_cast,seval,hl])|skip))
 | (refine Acz ⟨.inr rfl,[80],[],_,by decide,rfl,?_⟩;(try simp (disch:=omega) only [push_cast,seval,↓Adz,↓Abz,↓List.map_cons,↓List.map_nil,hl]))))
   all_goals simp [OI,hl]


theorem Fkz (xs:List Int)(n:Nat)(k:Nat)(hn:xs.length=n)(hb:n≤1099511627776∧k≤1000):PCall Tryz.prog 100 [.rows false (IL xs) n,.int .i64 k] (fun r=>r=.bool (decide (n=k)&&allI xs 0 ((k:Int)-1)&&decide xs.Nodup)):=by
 subst hn
 obtain ⟨hb1,hb2⟩:=hb
 refine Axz l100_eq rfl ?_
 have e:((xs.length:Int)=k)=(xs.length=k):=by simp;omega
 (repeat' ((first
 | (first|refine Afz ?_|refine Aaz ?_)
 | (first|refine Agz ?_)
 | ((first|refine Bgz (fun h=>?_) (fun h=>?_))<;>(try simp only [h])<;>(try simp only [bitvec_to_nat] at h)<;>(try simp only [h])<;>(first|(exfalso;omega)|(exfalso;simp_all;done)|skip))
 | (first|refine Anz false ?_)
 | (first|(refine Akz (Apz (Cvz _ _ _ _ ?_ ?_)) ?_;(iterate 2 (exact sd));rintro _ _ ⟨rfl,rfl⟩)|(refine Akz (Apz (Knz _ _ ?_ ?_)) ?_;(iterate 2 (exact sd));rintro _ _ ⟨rfl,rfl⟩))
 | (refine Acz ⟨.inr rfl,_,rfl,?_⟩))<;>(try simp (disch:=omega) only [push_cast,seval,e])))
 all_goals simp_all

end Go.Proofs.YtapccmfnmiopoaaGreat
namespace Go.Proofs.YtapccmfnmiopoaaGreat
open VwM Vw Go

/-- Facts of a slice of a dimension,for the walks. -/
theorem cut_facts {b:Int}{sh st:List Int}{j:Nat}{f t w:Int}{hf ht:Bool}(hv:vV b sh st=true)(hj:j<sh.length)(hs:vS f t w hf ht=true) :
  (0≤sh.getD j 0∧sh.getD j 0≤60) ∧
  vR (pS (sFrom f (sh.getD j 0) w hf) (cutK (sh.getD j 0) f t w hf ht)) (pE (sFrom f (sh.getD j 0) w hf) w (cutK (sh.getD j 0) f t w hf ht)) (pC w (cutK (sh.getD j 0) f t w hf ht))=true ∧
  cntN (pS (sFrom f (sh.getD j 0) w hf) (cutK (sh.getD j 0) f t w hf ht)) (pE (sFrom f (sh.getD j 0) w hf) w (cutK (sh.getD j 0) f t w hf ht)) (pC w (cutK (sh.getD j 0) f t w hf ht))=cutK (sh.getD j 0) f t w hf ht ∧
  (-12000≤pS (sFrom f (sh.getD j 0) w hf) (cutK (sh.getD j 0) f t w hf ht)*st.getD j 0∧pS (sFrom f (sh.getD j 0) w hf) (cutK (sh.getD j 0) f t w hf ht)*st.getD j 0≤12000) ∧
  (-12000≤pC w (cutK (sh.getD j 0) f t w hf ht)*st.getD j 0∧pC w (cutK (sh.getD j 0) f t w hf ht)*st.getD j 0≤12000) ∧
  (∀ i:Nat,i<cutK (sh.getD j 0) f t w hf ht→-1000≤sFrom f (sh.getD j 0) w hf+(i:Int)*w∧sFrom f (sh.getD j 0) w hf+(i:Int)*w≤1000) ∧
  (cutK (sh.getD j 0) f t w hf ht:Int)≤60:=by
 obtain ⟨h1,h2,h3,-⟩:=Czz.1 hv
 have hg:=(A5z h1).1
 have hn:=Cpz hg hj
 have hw:=Kez.1 hs
 have hk:=cutK_le hn hs
 have hin:=fun i hi=>idx_in hn hs (i:=i) hi
 have hst:=vSt_at h2 hj
 have hb:∀ i:Nat,i<cutK (sh.getD j 0) f t w hf ht→-100≤sFrom f (sh.getD j 0) w hf+(i:Int)*w∧sFrom f (sh.getD j 0) w hf+(i:Int)*w≤100:=fun i hi=>by have:=hin i hi;omega
 have v1:=PR_valid (s:=sFrom f (sh.getD j 0) w hf) hw.2.2.2.1 hw.2.2.1 hb
 have v2:=cntN_PR (s:=sFrom f (sh.getD j 0) w hf) hw.2.2.2.1 hw.2.2.1 hb
 have v3:=Dez.1 v1
 have m1:=mul_bd (p:=100) (q:=60) (x:=pS (sFrom f (sh.getD j 0) w hf) (cutK (sh.getD j 0) f t w hf ht)) (y:=st.getD j 0) (by omega) (by omega)
 have m2:=mul_bd (p:=200) (q:=60) (x:=pC w (cutK (sh.getD j 0) f t w hf ht)) (y:=st.getD j 0) (by omega) (by omega)
 exact ⟨hn,v1,v2,by omega,by omega,fun i hi=>by have:=hb i hi;omega,by omega⟩


set_option maxHeartbeats 16000000 in
theorem scutDim_ok (b:Int)(sh st:List Int)(n m:Nat)(j:Nat)(f t w:Int)(hf ht:Bool)(hn:sh.length=n)(hm:st.length=m)(hb:vV b sh st=true∧j<n)(hs:vS f t w hf ht=true) :
  BCall Tryz.prog 99 [.agg [.int .i64 b,.rows false (IL sh) n,.rows false (IL st) m],.int .i64 j,slc f t w hf ht] [] (OV (cutB b sh st j f t w hf ht) (cutSh sh j f t w hf ht) (cutSt sh st j f t w hf ht)):=by
 subst hn hm
 obtain ⟨hv,hj⟩:=hb
 obtain ⟨c1,c2,c3,c4,c5,c6,c7⟩:=cut_facts hv hj hs
 obtain ⟨hok,hl⟩:=A4z hv
 have hl4:=hok.1.1.2
 have hbb:=(Czz.1 hv).2.2.1
 have hg:=good4_cut hok.1.1 hj hs
 have hle:(sh.length≤1099511627776∧st.length≤1099511627776):=by omega
 have q1:cutK (sh.getD j 0) f t w hf ht≤1000:=by omega
 have hj2:j<st.length:=by omega
 have hsl:(sh.set j (cutK (sh.getD j 0) f t w hf ht:Int)).length=sh.length:=by simp
 have hK:cntN (sFrom f (sh.getD j 0) w hf) (sTo t (sh.getD j 0) w ht) w=cutK (sh.getD j 0) f t w hf ht:=rfl
 refine Awz (pins:=[]) (pin:=0) l99_eq rfl rfl rfl ?_
 by_cases hz:pr (cutSh sh j f t w hf ht)=0
 ·have e1:cutB b sh st j f t w hf ht=0:=if_pos hz
  have e2:cutSt sh st j f t w hf ht=List.replicate sh.length 0:=if_pos hz
  rw [e1,e2]
  unfold cutSh at hz hg ⊢
  generalize hkk:cutK (sh.getD j 0) f t w hf ht=k at *
  have hzg:=And.intro hg hz
  by_cases hk1:(k:Int)≤1
  ·(repeat' ((first
 | (first|refine Afz ?_|refine Aaz ?_)
 | (first|refine Agz ?_|refine Auz (mid:=l99r2a) (post:=l99r2b) Bfz (by decide) ?_|refine Auz (mid:=l99r5a) (post:=l99r5b) Bfz (by decide) ?_|refine Auz (mid:=l99r6a) (post:=l99r6b) Bfz (by decide) ?_|refine Aez ?_)
 | (first|((with_reducible refine A6z (f:=107) [176,177] false ?_);simp (disch:=omega) only [push_cast,seval,hK,c3,hk1,Ayz,List.length_set,List.set_set];(refine Ddz (id:=176) (id':=177) (by decide) (stidy0_ok _ _ _ _ _ ?_ ?_ ?_) (by (simp (disch:=omega) only [push_cast,seval,hK,c3,hk1,Ayz,List.length_set,List.set_set])<;>rfl) (by (simp (disch:=omega) only [push_cast,seval,hK,c3,hk1,Ayz,List.length_set,List.set_set])<;>rfl) ?_;(iterate 3 (exact sd));rintro _ _ ⟨rfl,rfl⟩)))
 | (first|refine Anz false ?_|refine A7z false ?_)
 | (first|((first|refine Akz (Blz _ _ _ _ _ ?_ ?_ ?_) ?_|refine Asz (Apz (plainV (Blz _ _ _ _ _ ?_ ?_ ?_))) ⟨_,_,rfl,rfl⟩ ?_);(iterate 3 (exact sd));rintro _ _ ⟨rfl,rfl⟩)|((first|refine Akz (B4z _ _ _ _ _ _ ?_ ?_) ?_|refine Asz (Apz (Dbz (B4z _ _ _ _ _ _ ?_ ?_))) ⟨_,_,rfl,rfl⟩ ?_);(iterate 2 (exact sd));rintro _ _ ⟨rfl,rfl⟩)|((first|refine Akz (Apz (Bkz _ _ _ ?_ ?_)) ?_|refine Asz (Apz (Bkz _ _ _ ?_ ?_)) ⟨_,_,rfl,rfl⟩ ?_);(iterate 2 (exact sd));rintro _ _ ⟨rfl,rfl⟩)|((first|refine Akz (Apz (Bkz _ _ _ ?_ ?_)) ?_|refine Asz (Apz (Bkz _ _ _ ?_ ?_)) ⟨_,_,rfl,rfl⟩ ?_);(iterate 2 (exact sd));rintro _ _ ⟨rfl,rfl⟩)|((first|refine Akz (Bzz _ _ _ ?_) ?_|refine Asz (Apz (Dbz (Bzz _ _ _ ?_))) ⟨_,_,rfl,rfl⟩ ?_);(exact sd);rintro _ _ ⟨rfl,rfl⟩))
 | (refine Acz ⟨.inr rfl,[176,960],[],_,by decide,rfl,?_⟩;(try simp (disch:=omega) only [push_cast,seval,↓Adz,↓Abz,↓List.map_cons,↓List.map_nil,hK,c3,hk1,Ayz,List.length_set,List.set_set])))<;>(try simp (disch:=omega) only [push_cast,seval,hK,c3,hk1,Ayz,List.length_set,List.set_set])))
   all_goals (try (simp [OV];done))
  ·(repeat' ((first
 | (first|refine Afz ?_|refine Aaz ?_)
 | (first|refine Agz ?_|refine Auz (mid:=l99r2a) (post:=l99r2b) Bfz (by decide) ?_|refine Auz (mid:=l99r5a) (post:=l99r5b) Bfz (by decide) ?_|refine Auz (mid:=l99r6a) (post:=l99r6b) Bfz (by decide) ?_|refine Aez ?_|refine Aoz ?_)
 | (first|((with_reducible refine A6z (f:=107) [176,177] false ?_);simp (disch:=omega) only [push_cast,seval,hK,c3,hk1,Ayz,List.length_set,List.set_set];(refine Ddz (id:=176) (id':=177) (by decide) (stidy0_ok _ _ _ _ _ ?_ ?_ ?_) (by (simp (disch:=omega) only [push_cast,seval,hK,c3,hk1,Ayz,List.length_set,List.set_set])<;>rfl) (by (simp (disch:=omega) only [push_cast,seval,hK,c3,hk1,Ayz,List.length_set,List.set_set])<;>rfl) ?_;(iterate 3 (exact sd));rintro _ _ ⟨rfl,rfl⟩)))
 | (first|refine Anz false ?_|refine A7z false ?_)
 | (first|((first|refine Akz (Blz _ _ _ _ _ ?_ ?_ ?_) ?_|refine Asz (Apz (plainV (Blz _ _ _ _ _ ?_ ?_ ?_))) ⟨_,_,rfl,rfl⟩ ?_);(iterate 3 (exact sd));rintro _ _ ⟨rfl,rfl⟩)|((first|refine Akz (B4z _ _ _ _ _ _ ?_ ?_) ?_|refine Asz (Apz (Dbz (B4z _ _ _ _ _ _ ?_ ?_))) ⟨_,_,rfl,rfl⟩ ?_);(iterate 2 (exact sd));rintro _ _ ⟨rfl,rfl⟩)|((first|refine Akz (Apz (Bkz _ _ _ ?_ ?_)) ?_|refine Asz (Apz (Bkz _ _ _ ?_ ?_)) ⟨_,_,rfl,rfl⟩ ?_);(iterate 2 (exact sd));rintro _ _ ⟨rfl,rfl⟩)|((first|refine Akz (Apz (Bkz _ _ _ ?_ ?_)) ?_|refine Asz (Apz (Bkz _ _ _ ?_ ?_)) ⟨_,_,rfl,rfl⟩ ?_);(iterate 2 (exact sd));rintro _ _ ⟨rfl,rfl⟩)|((first|refine Akz (Bzz _ _ _ ?_) ?_|refine Asz (Apz (Dbz (Bzz _ _ _ ?_))) ⟨_,_,rfl,rfl⟩ ?_);(exact sd);rintro _ _ ⟨rfl,rfl⟩))
 | (refine Acz ⟨.inr rfl,[176,960],[],_,by decide,rfl,?_⟩;(try simp (disch:=omega) only [push_cast,seval,↓Adz,↓Abz,↓List.map_cons,↓List.map_nil,hK,c3,hk1,Ayz,List.length_set,List.set_set])))<;>(try simp (disch:=omega) only [push_cast,seval,hK,c3,hk1,Ayz,List.length_set,List.set_set])))
   all_goals (try (simp [OV];done))
 ·have e1:cutB b sh st j f t w hf ht=b+pS (sFrom f (sh.getD j 0) w hf) (cutK (sh.getD j 0) f t w hf ht)*st.getD j 0:=if_neg hz
  have e2:cutSt sh st j f t w hf ht=st.set j (cutX sh st j f t w hf ht):=if_neg hz
  rw [e1,e2]
  unfold cutSh at hz hg ⊢
  unfold cutX
  generalize hkk:cutK (sh.getD j 0) f t w hf ht=k at *
  have hzg:=And.intro hg hz
  by_cases hk1:(k:Int)≤1
  ·(repeat' ((first
 | (first|refine Afz ?_|refine Aaz ?_)
 | (first|refine Agz ?_|refine Auz (mid:=l99r2a) (post:=l99r2b) Bfz (by decide) ?_|refine Auz (mid:=l99r5a) (post:=l99r5b) Bfz (by decide) ?_|refine Auz (mid:=l99r6a) (post:=l99r6b) Bfz (by decide) ?_|refine Aez ?_)
 | (first|((with_reducible refine A6z (f:=107) [176,177] false ?_);simp (disch:=omega) only [push_cast,seval,hK,c3,hk1,Ayz,List.length_set,List.set_set,List.length_replicate];(refine Ddz (id:=176) (id':=177) (by decide) (stidy1_ok _ _ _ _ _ ?_ ?_ ?_) (by (simp (disch:=omega) only [push_cast,seval,hK,c3,hk1,Ayz,List.length_set,List.set_set,List.length_replicate])<;>rfl) (by (simp (disch:=omega) only [push_cast,seval,hK,c3,hk1,Ayz,List.length_set,List.set_set,List.length_replicate])<;>rfl) ?_;(iterate 3 (exact sd));rintro _ _ ⟨rfl,rfl⟩)))
 | (first|refine Anz false ?_|refine A7z false ?_)
 | (first|((first|refine Akz (Blz _ _ _ _ _ ?_ ?_ ?_) ?_|refine Asz (Apz (plainV (Blz _ _ _ _ _ ?_ ?_ ?_))) ⟨_,_,rfl,rfl⟩ ?_);(iterate 3 (exact sd));rintro _ _ ⟨rfl,rfl⟩)|((first|refine Akz (B4z _ _ _ _ _ _ ?_ ?_) ?_|refine Asz (Apz (Dbz (B4z _ _ _ _ _ _ ?_ ?_))) ⟨_,_,rfl,rfl⟩ ?_);(iterate 2 (exact sd));rintro _ _ ⟨rfl,rfl⟩)|((first|refine Akz (Apz (Bkz _ _ _ ?_ ?_)) ?_|refine Asz (Apz (Bkz _ _ _ ?_ ?_)) ⟨_,_,rfl,rfl⟩ ?_);(iterate 2 (exact sd));rintro _ _ ⟨rfl,rfl⟩)|((first|refine Akz (Apz (Bkz _ _ _ ?_ ?_)) ?_|refine Asz (Apz (Bkz _ _ _ ?_ ?_)) ⟨_,_,rfl,rfl⟩ ?_);(iterate 2 (exact sd));rintro _ _ ⟨rfl,rfl⟩)|((first|refine Akz (Bzz _ _ _ ?_) ?_|refine Asz (Apz (Dbz (Bzz _ _ _ ?_))) ⟨_,_,rfl,rfl⟩ ?_);(exact sd);rintro _ _ ⟨rfl,rfl⟩))
 | (refine Acz ⟨.inr rfl,[176,177],[],_,by decide,rfl,?_⟩;(try simp (disch:=omega) only [push_cast,seval,↓Adz,↓Abz,↓List.map_cons,↓List.map_nil,hK,c3,hk1,Ayz,List.length_set,List.set_set,List.length_replicate])))<;>(try simp (disch:=omega) only [push_cast,seval,hK,c3,hk1,Ayz,List.length_set,List.set_set,List.length_replicate])))
   all_goals (try (simp [OV,hk1,hl];done))
  ·(repeat' ((first
 | (first|refine Afz ?_|refine Aaz ?_)
 | (first|refine Agz ?_|refine Auz (mid:=l99r2a) (post:=l99r2b) Bfz (by decide) ?_|refine Auz (mid:=l99r5a) (post:=l99r5b) Bfz (by decide) ?_|refine Auz (mid:=l99r6a) (post:=l99r6b) Bfz (by decide) ?_|refine Aez ?_|refine Aoz ?_)
 | (first|((with_reducible refine A6z (f:=107) [176,177] false ?_);simp (disch:=omega) only [push_cast,seval,hK,c3,hk1,Ayz,List.length_set,List.set_set,List.length_replicate];(refine Ddz (id:=176) (id':=177) (by decide) (stidy1_ok _ _ _ _ _ ?_ ?_ ?_) (by (simp (disch:=omega) only [push_cast,seval,hK,c3,hk1,Ayz,List.length_set,List.set_set,List.length_replicate])<;>rfl) (by (simp (disch:=omega) only [push_cast,seval,hK,c3,hk1,Ayz,List.length_set,List.set_set,List.length_replicate])<;>rfl) ?_;(iterate 3 (exact sd));rintro _ _ ⟨rfl,rfl⟩)))
 | (first|refine Anz false ?_|refine A7z false ?_)
 | (first|((first|refine Akz (Blz _ _ _ _ _ ?_ ?_ ?_) ?_|refine Asz (Apz (plainV (Blz _ _ _ _ _ ?_ ?_ ?_))) ⟨_,_,rfl,rfl⟩ ?_);(iterate 3 (exact sd));rintro _ _ ⟨rfl,rfl⟩)|((first|refine Akz (B4z _ _ _ _ _ _ ?_ ?_) ?_|refine Asz (Apz (Dbz (B4z _ _ _ _ _ _ ?_ ?_))) ⟨_,_,rfl,rfl⟩ ?_);(iterate 2 (exact sd));rintro _ _ ⟨rfl,rfl⟩)|((first|refine Akz (Apz (Bkz _ _ _ ?_ ?_)) ?_|refine Asz (Apz (Bkz _ _ _ ?_ ?_)) ⟨_,_,rfl,rfl⟩ ?_);(iterate 2 (exact sd));rintro _ _ ⟨rfl,rfl⟩)|((first|refine Akz (Apz (Bkz _ _ _ ?_ ?_)) ?_|refine Asz (Apz (Bkz _ _ _ ?_ ?_)) ⟨_,_,rfl,rfl⟩ ?_);(iterate 2 (exact sd));rintro _ _ ⟨rfl,rfl⟩)|((first|refine Akz (Bzz _ _ _ ?_) ?_|refine Asz (Apz (Dbz (Bzz _ _ _ ?_))) ⟨_,_,rfl,rfl⟩ ?_);(exact sd);rintro _ _ ⟨rfl,rfl⟩))
 | (refine Acz ⟨.inr rfl,[176,177],[],_,by decide,rfl,?_⟩;(try simp (disch:=omega) only [push_cast,seval,↓Adz,↓Abz,↓List.map_cons,↓List.map_nil,hK,c3,hk1,Ayz,List.length_set,List.set_set,List.length_replicate])))<;>(try simp (disch:=omega) only [push_cast,seval,hK,c3,hk1,Ayz,List.length_set,List.set_set,List.length_replicate])))
   all_goals (try (simp [OV,hk1,hl];done))

end Go.Proofs.YtapccmfnmiopoaaGreat
namespace Go.Proofs.YtapccmfnmiopoaaGreat
open VwM Vw Go

def sdOk (b:Int)(sh st:List Int)(d:Int)(f t w:Int)(hf ht:Bool):Bool :=
 vV b sh st&&(decide (0≤d)&&decide (d≤(sh.length:Int)-1))&&vS f t w hf ht&&vV (cutB b sh st d.toNat f t w hf ht) (cutSh sh d.toNat f t w hf ht) (cutSt sh st d.toNat f t w hf ht)
theorem K0z {p q:Prop}[Decidable p][Decidable q](h:¬ (p∧q)):(decide p&&decide q)=false:=by
 rw [Bool.eq_false_iff];intro h';simp at h';exact h h'
theorem Hwz {p q:Prop}[Decidable p][Decidable q](h:p∧q):(decide p&&decide q)=true:=by simp [h.1,h.2]


theorem Hjz (b:Int)(sh st:List Int)(n m:Nat)(d:Int)(f t w:Int)(hf ht:Bool)(hn:sh.length=n)(hm:st.length=m)(hb:n≤1099511627776∧m≤1099511627776) :
  BCall Tryz.prog 82 [.agg [.int .i64 b,.rows false (IL sh) n,.rows false (IL st) m],.int .i64 d,slc f t w hf ht] [] (MV (sdOk b sh st d f t w hf ht) (cutB b sh st d.toNat f t w hf ht) (cutSh sh d.toNat f t w hf ht) (cutSt sh st d.toNat f t w hf ht)):=by
 subst hn hm
 obtain ⟨hb1,hb2⟩:=hb
 refine Awz (pins:=[]) (pin:=0) l82_eq rfl rfl rfl ?_
 cases hv:vV b sh st with
 | false =>
  have e:sdOk b sh st d f t w hf ht=false:=by simp [sdOk,hv]
  rw [e]
  (repeat' ((first
 | (first|refine Afz ?_|refine Aaz ?_)
 | (first|refine Agz ?_|refine Aez ?_)
 | (first|refine Anz false ?_)
 | (first|(refine Akz (Apz (Azz _ _ _ _ _ ?_ ?_ ?_)) ?_;(iterate 3 (exact sd));rintro _ _ ⟨rfl,rfl⟩))
 | (refine Acz ⟨.inr rfl,[16000,16016],[(16000,1),(16016,1)],_,by decide,rfl,?_⟩;(try simp (disch:=omega) only [push_cast,seval,↓Adz,↓Abz,↓List.map_cons,↓List.map_nil,hv])))<;>(try simp (disch:=omega) only [push_cast,seval,hv])))
  all_goals simp [MV,MVB,MVL]
 | true =>
 by_cases hd:0≤d∧d≤(sh.length:Int)-1
 ·cases hs:vS f t w hf ht with
  | false =>
   have e:sdOk b sh st d f t w hf ht=false:=by simp [sdOk,hs]
   have hd':=Hwz hd
   rw [e]
   (repeat' ((first
 | (first|refine Afz ?_|refine Aaz ?_)
 | (first|refine Agz ?_|refine Aez ?_)
 | (first|refine Anz false ?_)
 | (first|(refine Akz (Apz (Azz _ _ _ _ _ ?_ ?_ ?_)) ?_;(iterate 3 (exact sd));rintro _ _ ⟨rfl,rfl⟩)|(refine Akz (Apz (Dkz _ _ _ _ _ _ ?_ ?_)) ?_;(iterate 2 (exact sd));rintro _ _ ⟨rfl,rfl⟩)|(refine Akz (Apz (Fjz _ _ _ _ _)) ?_;rintro _ _ ⟨rfl,rfl⟩))
 | (refine Acz ⟨.inr rfl,[16000,16016],[(16000,1),(16016,1)],_,by decide,rfl,?_⟩;(try simp (disch:=omega) only [push_cast,seval,↓Adz,↓Abz,↓List.map_cons,↓List.map_nil,hv,hd',hs])))<;>(try simp (disch:=omega) only [push_cast,seval,hv,hd',hs])))
   all_goals simp [MV,MVB,MVL]
  | true =>
   have hd':=Hwz hd
   obtain ⟨j,rfl⟩:∃ j:Nat,d=j:=⟨d.toNat,by omega⟩
   have hj:j<sh.length:=by omega
   have e:sdOk b sh st j f t w hf ht=vV (cutB b sh st j f t w hf ht) (cutSh sh j f t w hf ht) (cutSt sh st j f t w hf ht):=by simp only [sdOk,hv,hs,hd',Int.toNat_natCast,Bool.true_and]
   rw [e]
   simp only [Int.toNat_natCast]
   have hlen:=(A4z hv).2
   have l1:=Evz sh j f t w hf ht
   have l2:=Euz hlen j f t w hf ht
   have hq:(cutSh sh j f t w hf ht).length≤1099511627776∧(cutSt sh st j f t w hf ht).length≤1099511627776:=by omega
   (repeat' ((first
 | (first|refine Afz ?_|refine Aaz ?_)
 | (first|refine Agz ?_|refine Aez ?_|refine Aoz ?_)
 | (first|refine Anz false ?_)
 | (first|(refine Akz (Apz (Azz _ _ _ _ _ ?_ ?_ ?_)) ?_;(iterate 3 (exact sd));rintro _ _ ⟨rfl,rfl⟩)|(refine Akz (Apz (Dkz _ _ _ _ _ _ ?_ ?_)) ?_;(iterate 2 (exact sd));rintro _ _ ⟨rfl,rfl⟩)|(refine Akz (Apz (Fjz _ _ _ _ _)) ?_;rintro _ _ ⟨rfl,rfl⟩)|(refine Akz (scutDim_ok _ _ _ _ _ _ _ _ _ _ _ ?_ ?_ ?_ ?_) ?_;(iterate 4 (exact sd));rintro _ _ ⟨rfl,rfl⟩)|(refine Akz (Gez _ _ _ _ _ ?_ ?_ ?_) ?_;(iterate 3 (exact sd));rintro _ _ ⟨rfl,rfl⟩))
 | (refine Acz ⟨.inr rfl,[432,433],[],_,by decide,rfl,?_⟩;(try simp (disch:=omega) only [push_cast,seval,↓Adz,↓Abz,↓List.map_cons,↓List.map_nil,hv,hd',hs])))<;>(try simp (disch:=omega) only [push_cast,seval,hv,hd',hs])))
   all_goals exact ⟨rfl,rfl⟩
 ·have hd':=K0z hd
  have e:sdOk b sh st d f t w hf ht=false:=by simp only [sdOk,hd',Bool.and_false,Bool.false_and]
  rw [e]
  (repeat' ((first
 | (first|refine Afz ?_|refine Aaz ?_)
 | (first|refine Agz ?_|refine Aez ?_)
 | (first|refine Anz false ?_)
 | (first|(refine Akz (Apz (Azz _ _ _ _ _ ?_ ?_ ?_)) ?_;(iterate 3 (exact sd));rintro _ _ ⟨rfl,rfl⟩)|(refine Akz (Apz (Dkz _ _ _ _ _ _ ?_ ?_)) ?_;(iterate 2 (exact sd));rintro _ _ ⟨rfl,rfl⟩))
 | (refine Acz ⟨.inr rfl,[16000,16016],[(16000,1),(16016,1)],_,by decide,rfl,?_⟩;(try simp (disch:=omega) only [push_cast,seval,↓Adz,↓Abz,↓List.map_cons,↓List.map_nil,hv,hd'])))<;>(try simp (disch:=omega) only [push_cast,seval,hv,hd'])))
  all_goals simp [MV,MVB,MVL]


theorem sFlipDim_ok (b:Int)(sh st:List Int)(n m:Nat)(d:Int)(hn:sh.length=n)(hm:st.length=m)(hb:n≤1099511627776∧m≤1099511627776) :
  BCall Tryz.prog 84 [.agg [.int .i64 b,.rows false (IL sh) n,.rows false (IL st) m],.int .i64 d] [] (MV (sdOk b sh st d 0 0 (-1) false false) (cutB b sh st d.toNat 0 0 (-1) false false) (cutSh sh d.toNat 0 0 (-1) false false) (cutSt sh st d.toNat 0 0 (-1) false false)):=by
 subst hn hm
 obtain ⟨hb1,hb2⟩:=hb
 refine Awz (pins:=[]) (pin:=0) l84_eq rfl rfl rfl ?_
 (repeat' ((first
 | (first|refine Afz ?_|refine Aaz ?_)
 | (first|refine Agz ?_)
 | (first|refine Anz false ?_)
 | (first|(refine Akz (Hjz _ _ _ _ _ _ _ _ _ _ _ ?_ ?_ ?_) ?_;(iterate 3 (exact sd));rintro _ _ ⟨rfl,rfl⟩))
 | (refine Acz ⟨.inr rfl,[144,145],[],_,by decide,rfl,?_⟩;(try simp (disch:=omega) only [push_cast,seval,↓Adz,↓Abz,↓List.map_cons,↓List.map_nil])))<;>(try simp (disch:=omega) only [push_cast,seval])))
 all_goals exact ⟨rfl,rfl⟩


def winSh (sh:List Int)(j:Nat)(s:Int):List Int:=sh.set j (sh.getD j 0-s+1)++[s]
def winSt (st:List Int)(j:Nat):List Int:=st++[st.getD j 0]
def wnOk (b:Int)(sh st:List Int)(d s:Int):Bool :=
 vV b sh st&&(decide (0≤d)&&decide (d≤(sh.length:Int)-1))&&(decide (1≤s)&&decide (s≤sh.getD d.toNat 0))&&vV b (winSh sh d.toNat s) (winSt st d.toNat)


theorem Koz (b:Int)(sh st:List Int)(n m:Nat)(d s:Int)(hn:sh.length=n)(hm:st.length=m)(hb:n≤1099511627776∧m≤1099511627776) :
  BCall Tryz.prog 88 [.agg [.int .i64 b,.rows false (IL sh) n,.rows false (IL st) m],.int .i64 d,.int .i64 s] [] (MV (wnOk b sh st d s) b (winSh sh d.toNat s) (winSt st d.toNat)):=by
 subst hn hm
 obtain ⟨hb1,hb2⟩:=hb
 refine Awz (pins:=[]) (pin:=0) l88_eq rfl rfl rfl ?_
 cases hv:vV b sh st with
 | false =>
  have e:wnOk b sh st d s=false:=by simp [wnOk,hv]
  rw [e]
  (repeat' ((first
 | (first|refine Afz ?_|refine Aaz ?_)
 | (first|refine Agz ?_|refine Aez ?_)
 | (first|refine Anz false ?_)
 | (first|(refine Akz (Apz (Azz _ _ _ _ _ ?_ ?_ ?_)) ?_;(iterate 3 (exact sd));rintro _ _ ⟨rfl,rfl⟩))
 | (refine Acz ⟨.inr rfl,[16000,16016],[(16000,1),(16016,1)],_,by decide,rfl,?_⟩;(try simp (disch:=omega) only [push_cast,seval,↓Adz,↓Abz,↓List.map_cons,↓List.map_nil,hv])))<;>(try simp (disch:=omega) only [push_cast,seval,hv])))
  all_goals simp [MV,MVB,MVL]
 | true =>
 by_cases hd:0≤d∧d≤(sh.length:Int)-1
 ·have hd':=Hwz hd
  obtain ⟨j,rfl⟩:∃ j:Nat,d=j:=⟨d.toNat,by omega⟩
  have hj:j<sh.length:=by omega
  by_cases hs:1≤s∧s≤sh.getD j 0
  ·have hs':=Hwz hs
   have e:wnOk b sh st j s=vV b (winSh sh j s) (winSt st j):=by simp only [wnOk,hv,hs',hd',Int.toNat_natCast,Bool.true_and]
   rw [e]
   simp only [Int.toNat_natCast]
   obtain ⟨hok,hlen⟩:=A4z hv
   have hj2:j<st.length:=by omega
   have hl4:=hok.1.1.2
   have hx:=Cpz hok.1.1 hj
   unfold winSh winSt
   have l1:(sh.set j (sh.getD j 0-s+1)++[s]).length=sh.length+1:=by simp
   have l2:(st++[st.getD j 0]).length=st.length+1:=by simp
   have hq:sh.length+1≤1099511627776∧st.length+1≤1099511627776:=by omega
   (repeat' ((first
 | (first|refine Afz ?_|refine Aaz ?_)
 | (first|refine Agz ?_|refine Auz (mid:=l88r4a) (post:=l88r4b) Bfz (by decide) ?_|refine Auz (mid:=l88r6a) (post:=l88r6b) Bfz (by decide) ?_|refine Aez ?_|refine Aoz ?_)
 | (first|refine Anz false ?_)
 | (first|(refine Akz (Apz (Azz _ _ _ _ _ ?_ ?_ ?_)) ?_;(iterate 3 (exact sd));rintro _ _ ⟨rfl,rfl⟩)|(refine Akz (Apz (Dkz _ _ _ _ _ _ ?_ ?_)) ?_;(iterate 2 (exact sd));rintro _ _ ⟨rfl,rfl⟩)|(refine Akz (Apz (Bvz _ _ _)) ?_;rintro _ _ ⟨rfl,rfl⟩)|(refine Akz (Blz _ _ _ _ _ ?_ ?_ ?_) ?_;(iterate 3 (exact sd));rintro _ _ ⟨rfl,rfl⟩)|(refine Akz (Gez _ _ _ _ _ ?_ ?_ ?_) ?_;(iterate 3 (exact sd));rintro _ _ ⟨rfl,rfl⟩))
 | (refine Acz ⟨.inr rfl,[960,961],[],_,by decide,rfl,?_⟩;(try simp (disch:=omega) only [push_cast,seval,↓Adz,↓Abz,↓List.map_cons,↓List.map_nil,hv,hd',hs',Ayz,B9z,List.length_set,l1,l2])))<;>(try simp (disch:=omega) only [push_cast,seval,hv,hd',hs',Ayz,B9z,List.length_set,l1,l2])))
   all_goals exact ⟨rfl,rfl⟩
  ·have hs':=K0z hs
   have e:wnOk b sh st j s=false:=by simp only [wnOk,hs',Int.toNat_natCast,Bool.and_false,Bool.false_and]
   rw [e]
   (repeat' ((first
 | (first|refine Afz ?_|refine Aaz ?_)
 | (first|refine Agz ?_|refine Aez ?_)
 | (first|refine Anz false ?_)
 | (first|(refine Akz (Apz (Azz _ _ _ _ _ ?_ ?_ ?_)) ?_;(iterate 3 (exact sd));rintro _ _ ⟨rfl,rfl⟩)|(refine Akz (Apz (Dkz _ _ _ _ _ _ ?_ ?_)) ?_;(iterate 2 (exact sd));rintro _ _ ⟨rfl,rfl⟩)|(refine Akz (Apz (Bvz _ _ _)) ?_;rintro _ _ ⟨rfl,rfl⟩))
 | (refine Acz ⟨.inr rfl,[16000,16016],[(16000,1),(16016,1)],_,by decide,rfl,?_⟩;(try simp (disch:=omega) only [push_cast,seval,↓Adz,↓Abz,↓List.map_cons,↓List.map_nil,hv,hd',hs'])))<;>(try simp (disch:=omega) only [push_cast,seval,hv,hd',hs'])))
   all_goals simp [MV,MVB,MVL]
 ·have hd':=K0z hd
  have e:wnOk b sh st d s=false:=by simp only [wnOk,hd',Bool.and_false,Bool.false_and]
  rw [e]
  (repeat' ((first
 | (first|refine Afz ?_|refine Aaz ?_)
 | (first|refine Agz ?_|refine Aez ?_)
 | (first|refine Anz false ?_)
 | (first|(refine Akz (Apz (Azz _ _ _ _ _ ?_ ?_ ?_)) ?_;(iterate 3 (exact sd));rintro _ _ ⟨rfl,rfl⟩)|(refine Akz (Apz (Dkz _ _ _ _ _ _ ?_ ?_)) ?_;(iterate 2 (exact sd));rintro _ _ ⟨rfl,rfl⟩))
 | (refine Acz ⟨.inr rfl,[16000,16016],[(16000,1),(16016,1)],_,by decide,rfl,?_⟩;(try simp (disch:=omega) only [push_cast,seval,↓Adz,↓Abz,↓List.map_cons,↓List.map_nil,hv,hd'])))<;>(try simp (disch:=omega) only [push_cast,seval,hv,hd'])))
  all_goals simp [MV,MVB,MVL]


def adOk (b:Int)(sh st:List Int)(d:Int):Bool :=
 vV b sh st&&(decide (0≤d)&&decide (d≤(sh.length:Int)))&&!decide (sh.length=4)&&vV b (ins sh d.toNat 1) (ins st d.toNat 0)


theorem sAddDim_ok (b:Int)(sh st:List Int)(n m:Nat)(d:Int)(hn:sh.length=n)(hm:st.length=m)(hb:n≤1099511627776∧m≤1099511627776) :
  BCall Tryz.prog 89 [.agg [.int .i64 b,.rows false (IL sh) n,.rows false (IL st) m],.int .i64 d] [] (MV (adOk b sh st d) b (ins sh d.toNat 1) (ins st d.toNat 0)):=by
 subst hn hm
 obtain ⟨hb1,hb2⟩:=hb
 refine Awz (pins:=[]) (pin:=0) l89_eq rfl rfl rfl ?_
 cases hv:vV b sh st with
 | false =>
  have e:adOk b sh st d=false:=by simp [adOk,hv]
  rw [e]
  (repeat' ((first
 | (first|refine Afz ?_|refine Aaz ?_)
 | (first|refine Agz ?_|refine Aez ?_)
 | (first|refine Anz false ?_)
 | (first|(refine Akz (Apz (Azz _ _ _ _ _ ?_ ?_ ?_)) ?_;(iterate 3 (exact sd));rintro _ _ ⟨rfl,rfl⟩))
 | (refine Acz ⟨.inr rfl,[16000,16016],[(16000,1),(16016,1)],_,by decide,rfl,?_⟩;(try simp (disch:=omega) only [push_cast,seval,↓Adz,↓Abz,↓List.map_cons,↓List.map_nil,hv])))<;>(try simp (disch:=omega) only [push_cast,seval,hv])))
  all_goals simp [MV,MVB,MVL]
 | true =>
 by_cases hd:0≤d∧d≤(sh.length:Int)
 ·have hd':=Hwz hd
  obtain ⟨j,rfl⟩:∃ j:Nat,d=j:=⟨d.toNat,by omega⟩
  have hj:j≤sh.length:=by omega
  by_cases h4:sh.length=4
  ·have e:adOk b sh st j=false:=by simp [adOk,h4]
   have h4':(sh.length:Int)=4:=by omega
   rw [e]
   (repeat' ((first
 | (first|refine Afz ?_|refine Aaz ?_)
 | (first|refine Agz ?_|refine Aez ?_)
 | ((first|refine Bgz (fun h=>?_) (fun h=>?_))<;>(try simp only [h])<;>(try simp only [bitvec_to_nat] at h)<;>(try simp only [h])<;>(first|(exfalso;omega)|(exfalso;simp_all;done)|skip))
 | (first|refine Anz false ?_)
 | (first|(refine Akz (Apz (Azz _ _ _ _ _ ?_ ?_ ?_)) ?_;(iterate 3 (exact sd));rintro _ _ ⟨rfl,rfl⟩)|(refine Akz (Apz (Bvz _ _ _)) ?_;rintro _ _ ⟨rfl,rfl⟩))
 | (refine Acz ⟨.inr rfl,[16000,16016],[(16000,1),(16016,1)],_,by decide,rfl,?_⟩;(try simp (disch:=omega) only [push_cast,seval,↓Adz,↓Abz,↓List.map_cons,↓List.map_nil,hv,hd',h4'])))<;>(try simp (disch:=omega) only [push_cast,seval,hv,hd',h4'])))
   all_goals simp [MV,MVB,MVL]
  ·have h4':¬ (sh.length:Int)=4:=by omega
   have e:adOk b sh st j=vV b (ins sh j 1) (ins st j 0):=by simp only [adOk,hv,hd',h4,Int.toNat_natCast,Bool.true_and,decide_false,Bool.not_false]
   rw [e]
   simp only [Int.toNat_natCast]
   obtain ⟨hok,hlen⟩:=A4z hv
   have hl4:=hok.1.1.2
   have l1:=G9z 1 hj
   have l2:=G9z (xs:=st) 0 (show j≤st.length by omega)
   have hq:sh.length+1≤1099511627776∧st.length+1≤1099511627776:=by omega
   have hq1:j≤sh.length∧sh.length≤1099511000000:=by omega
   have hq2:j≤st.length∧st.length≤1099511000000:=by omega
   (repeat' ((first
 | (first|refine Afz ?_|refine Aaz ?_)
 | (first|refine Agz ?_|refine Auz (mid:=l89r3a) (post:=l89r3b) Bfz (by decide) ?_|refine Aez ?_|refine Aoz ?_)
 | (first|refine Anz false ?_|refine A7z false ?_)
 | (first|((first|refine Akz (Apz (Azz _ _ _ _ _ ?_ ?_ ?_)) ?_|refine Asz (Apz (Azz _ _ _ _ _ ?_ ?_ ?_)) ⟨_,_,rfl,rfl⟩ ?_);(iterate 3 (exact sd));rintro _ _ ⟨rfl,rfl⟩)|((first|refine Akz (Apz (Bvz _ _ _)) ?_|refine Asz (Apz (Bvz _ _ _)) ⟨_,_,rfl,rfl⟩ ?_);rintro _ _ ⟨rfl,rfl⟩)|((first|refine Akz (Jnz _ _ _ _ ?_ ?_) ?_|refine Asz (Apz (Dbz (Jnz _ _ _ _ ?_ ?_))) ⟨_,_,rfl,rfl⟩ ?_);(iterate 2 (exact sd));rintro _ _ ⟨rfl,rfl⟩)|((first|refine Akz (Gez _ _ _ _ _ ?_ ?_ ?_) ?_|refine Asz (Gez _ _ _ _ _ ?_ ?_ ?_) ⟨_,_,rfl,rfl⟩ ?_);(iterate 3 (exact sd));rintro _ _ ⟨rfl,rfl⟩))
 | (refine Acz ⟨.inr rfl,[560,561],[],_,by decide,rfl,?_⟩;(try simp (disch:=omega) only [push_cast,seval,↓Adz,↓Abz,↓List.map_cons,↓List.map_nil,hv,hd',h4',l1,l2])))<;>(try simp (disch:=omega) only [push_cast,seval,hv,hd',h4',l1,l2])))
   all_goals exact ⟨rfl,rfl⟩
 ·have hd':=K0z hd
  have e:adOk b sh st d=false:=by simp only [adOk,hd',Bool.and_false,Bool.false_and]
  rw [e]
  (repeat' ((first
 | (first|refine Afz ?_|refine Aaz ?_)
 | (first|refine Agz ?_|refine Aez ?_)
 | (first|refine Anz false ?_)
 | (first|(refine Akz (Apz (Azz _ _ _ _ _ ?_ ?_ ?_)) ?_;(iterate 3 (exact sd));rintro _ _ ⟨rfl,rfl⟩)|(refine Akz (Apz (Bvz _ _ _)) ?_;rintro _ _ ⟨rfl,rfl⟩))
 | (refine Acz ⟨.inr rfl,[16000,16016],[(16000,1),(16016,1)],_,by decide,rfl,?_⟩;(try simp (disch:=omega) only [push_cast,seval,↓Adz,↓Abz,↓List.map_cons,↓List.map_nil,hv,hd'])))<;>(try simp (disch:=omega) only [push_cast,seval,hv,hd'])))
  all_goals simp [MV,MVB,MVL]

end Go.Proofs.YtapccmfnmiopoaaGreat
namespace Go.Proofs.YtapccmfnmiopoaaGreat
open VwM Vw Go

def pmOk (b:Int)(sh st order:List Int):Bool :=
 vV b sh st&&(decide (order.length=sh.length)&&allI order 0 ((sh.length:Int)-1)&&decide order.Nodup)&&vV b (permL sh order) (permL st order)


theorem spermuted_ok (b:Int)(sh st order:List Int)(n m p:Nat)(hn:sh.length=n)(hm:st.length=m)(hp:order.length=p)(hb:(n≤4∧m=n∧p=n)∧∀ x∈order,0≤x∧x≤(n:Int)-1) :
  BCall Tryz.prog 101 [.agg [.int .i64 b,.rows false (IL sh) n,.rows false (IL st) m],.rows false (IL order) p] [] (OV b (permL sh order) (permL st order)):=by
 subst hn hm hp
 obtain ⟨⟨hb1,hb2,hb3⟩,hbo⟩:=hb
 refine Awz (pins:=[]) (pin:=0) l101_eq rfl rfl rfl ?_
 (repeat' (first
 | (first|refine Afz ?_|refine Aaz ?_)
 | ((first|refine Agz ?_);simp (disch:=omega) only [push_cast,seval])
 | (refine Acz ⟨.inr rfl,[16000,16016],[(16000,1),(16016,1)],_,by decide,rfl,?_⟩;(try simp (disch:=omega) only [push_cast,seval,↓Adz,↓Abz,↓List.map_cons,↓List.map_nil]))))
 refine A0z (fun k:Nat=>if k=0 then mkS [(2,.ref 32 3 0),(4,.ref 64 3 0),(5,.ref 80 3 0),(1,RI order),(6,.int .i64 0)] [(32,[.int .i64 b,RI sh,RI st]),(64,[.int .i64 0,.val (.slice none 0 0),.val (.slice none 0 0)]),(80,[.int .i64 b,.val (.slice none 0 0),.val (.slice none 0 0)])]
  else mkS [(2,.ref 32 3 0),(4,.ref 64 3 0),(5,.ref 80 3 0),(1,RI order),(6,.int .i64 k)] [(32,[.int .i64 b,RI sh,RI st]),(64,[.int .i64 0,.val (.slice none 0 0),.val (.slice none 0 0)]),(80,[.int .i64 b,.own 432 k 1,.own 640 k 1]),(432,IL (permL sh (order.take k))),(640,IL (permL st (order.take k)))])
  (fun k=>k≤order.length) (fun k=>order.length-k) 0 (Nat.zero_le _) ?_ ?_
 ·rw [if_pos rfl]
  (refine Sub.of_lists ?_ ?_ ?_ ?_ ?_<;>simp [Vw.mkS,Vw.lk,Vw.hk,AV.inn,innL,Ajz,Ahz,Alz,-List.map_set,-List.getD_eq_getElem?_getD])
 ·intro k hk
  have e1:=A3z sh (order.take k)
  have e2:=A3z st (order.take k)
  by_cases hlt:k<order.length
  ·have hx:=hbo _ (Bcz hlt)
   obtain ⟨c,hc⟩:∃ c:Nat,order.getD k 0=c:=⟨(order.getD k 0).toNat,by omega⟩
   have s1:=G4z sh order hlt
   have s2:=G4z st order hlt
   rw [hc,Int.toNat_natCast] at s1 s2
   rw [hc] at hx
   have hc1:c<sh.length∧c<st.length:=by omega
   by_cases h0:k=0
   ·subst h0
    rw [if_pos rfl]
    have hc0:order.getD 0 0=c:=hc
    (repeat' (first
 | (first|refine Afz ?_|refine Aaz ?_)
 | ((first|refine Agz ?_|refine Auz (mid:=l101r4a) (post:=l101r4b) Bfz (by decide) ?_|refine Auz (mid:=l101r5a) (post:=l101r5b) Bfz (by decide) ?_|refine Aez ?_|refine Aoz ?_);simp (disch:=omega) only [push_cast,seval,hc0,Int.toNat_natCast,Int.natCast_zero])
 | ((first|refine Aiz (fun h=>?_) (fun h=>?_))<;>(try simp only [h])<;>(try simp only [bitvec_to_nat] at h)<;>(try simp only [h])<;>(first|(exfalso;omega)|(exfalso;simp_all;done)|(simp (disch:=omega) only [push_cast,seval,hc0,Int.toNat_natCast,Int.natCast_zero])|skip))
 | (refine Acz ⟨.inr rfl,[],[],_,by decide,rfl,?_⟩;(try simp (disch:=omega) only [push_cast,seval,↓Adz,↓Abz,↓List.map_cons,↓List.map_nil,hc0,Int.toNat_natCast,Int.natCast_zero]))))
    refine ⟨0+1,by omega,by omega,?_⟩
    rw [if_neg (by omega)]
    rw [s1,s2]
    simp only [List.take_zero]
    (refine Sub.of_lists ?_ ?_ ?_ ?_ ?_<;>simp [Vw.mkS,Vw.lk,Vw.hk,AV.inn,innL,Ajz,Ahz,Alz,-List.map_set,-List.getD_eq_getElem?_getD,permL])
   ·rw [if_neg h0]
    have e3:(permL sh (order.take k)).length=k:=by rw [e1];simp;omega
    have e4:(permL st (order.take k)).length=k:=by rw [e2];simp;omega
    generalize hq1:permL sh (order.take k)=q1 at *
    generalize hq2:permL st (order.take k)=q2 at *
    (repeat' (first
 | (first|refine Afz ?_|refine Aaz ?_)
 | ((first|refine Agz ?_|refine Auz (mid:=l101r4a) (post:=l101r4b) Bfz (by decide) ?_|refine Auz (mid:=l101r5a) (post:=l101r5b) Bfz (by decide) ?_|refine Aez ?_|refine Aoz ?_);simp (disch:=omega) only [push_cast,seval,hc,Int.toNat_natCast,e3,e4])
 | ((first|refine Aiz (fun h=>?_) (fun h=>?_))<;>(try simp only [h])<;>(try simp only [bitvec_to_nat] at h)<;>(try simp only [h])<;>(first|(exfalso;omega)|(exfalso;simp_all;done)|(simp (disch:=omega) only [push_cast,seval,hc,Int.toNat_natCast,e3,e4])|skip))
 | (refine Acz ⟨.inr rfl,[],[],_,by decide,rfl,?_⟩;(try simp (disch:=omega) only [push_cast,seval,↓Adz,↓Abz,↓List.map_cons,↓List.map_nil,hc,Int.toNat_natCast,e3,e4]))))
    refine ⟨k+1,by omega,by omega,?_⟩
    rw [if_neg (by omega),s1,s2]
    (refine Sub.of_lists ?_ ?_ ?_ ?_ ?_<;>simp [Vw.mkS,Vw.lk,Vw.hk,AV.inn,innL,Ajz,Ahz,Alz,-List.map_set,-List.getD_eq_getElem?_getD,e3,e4])
  ·have hke:k=order.length:=by omega
   have ht:order.take k=order:=List.take_of_length_le (by omega)
   by_cases h0:k=0
   ·subst h0
    rw [if_pos rfl]
    have hL:(order.length:Int)=0:=by omega
    clear ht e1 e2 hk hbo hlt
    (repeat' (first
 | (first|refine Afz ?_|refine Aaz ?_)
 | ((first|refine Agz ?_|refine Aez ?_|refine Atz ?_);simp (disch:=omega) only [push_cast,seval,hL])
 | (refine Acz ⟨.inr rfl,[16000,16016],[(16000,1),(16016,1)],_,by decide,rfl,?_⟩;(try simp (disch:=omega) only [push_cast,seval,↓Adz,↓Abz,↓List.map_cons,↓List.map_nil,hL]))))
    have ho:order=[]:=List.length_eq_zero_iff.1 hke.symm
    all_goals simp [OV,permL,ho]
   ·rw [if_neg h0,ht]
    rw [ht] at e1 e2
    (repeat' (first
 | (first|refine Afz ?_|refine Aaz ?_)
 | ((first|refine Agz ?_|refine Aez ?_|refine Atz ?_);simp (disch:=omega) only [push_cast,seval,hke,e1,e2])
 | ((first|refine Aiz (fun h=>?_) (fun h=>?_))<;>(try simp only [h])<;>(try simp only [bitvec_to_nat] at h)<;>(try simp only [h])<;>(first|(exfalso;omega)|(exfalso;simp_all;done)|(simp (disch:=omega) only [push_cast,seval,hke,e1,e2])|skip))
 | (refine Acz ⟨.inr rfl,[432,640],[],_,by decide,rfl,?_⟩;(try simp (disch:=omega) only [push_cast,seval,↓Adz,↓Abz,↓List.map_cons,↓List.map_nil,hke,e1,e2]))))
    all_goals simp [OV,e1,e2]


theorem Hyz (b:Int)(sh st order:List Int)(n m p:Nat)(hn:sh.length=n)(hm:st.length=m)(hp:order.length=p)(hb:(n≤1099511627776∧m≤1099511627776)∧p≤1099511627776) :
  BCall Tryz.prog 85 [.agg [.int .i64 b,.rows false (IL sh) n,.rows false (IL st) m],.rows false (IL order) p] [] (MV (pmOk b sh st order) b (permL sh order) (permL st order)):=by
 subst hn hm hp
 obtain ⟨⟨hb1,hb2⟩,hb3⟩:=hb
 refine Awz (pins:=[]) (pin:=0) l85_eq rfl rfl rfl ?_
 cases hv:vV b sh st with
 | false =>
  have e:pmOk b sh st order=false:=by simp [pmOk,hv]
  rw [e]
  (repeat' ((first
 | (first|refine Afz ?_|refine Aaz ?_)
 | (first|refine Agz ?_|refine Aez ?_)
 | (first|refine Anz false ?_)
 | (first|(refine Akz (Apz (Azz _ _ _ _ _ ?_ ?_ ?_)) ?_;(iterate 3 (exact sd));rintro _ _ ⟨rfl,rfl⟩))
 | (refine Acz ⟨.inr rfl,[16000,16016],[(16000,1),(16016,1)],_,by decide,rfl,?_⟩;(try simp (disch:=omega) only [push_cast,seval,↓Adz,↓Abz,↓List.map_cons,↓List.map_nil,hv])))<;>(try simp (disch:=omega) only [push_cast,seval,hv])))
  all_goals simp [MV,MVB,MVL]
 | true =>
  obtain ⟨hok,hlen⟩:=A4z hv
  have hl4:=hok.1.1.2
  have hq0:order.length≤1099511627776∧sh.length≤1000:=by omega
  cases ho:(decide (order.length=sh.length)&&allI order 0 ((sh.length:Int)-1)&&decide order.Nodup) with
  | false =>
   have e:pmOk b sh st order=false:=by simp only [pmOk,ho,Bool.and_false,Bool.false_and]
   rw [e]
   (repeat' ((first
 | (first|refine Afz ?_|refine Aaz ?_)
 | (first|refine Agz ?_|refine Aez ?_)
 | (first|refine Anz false ?_)
 | (first|(refine Akz (Apz (Azz _ _ _ _ _ ?_ ?_ ?_)) ?_;(iterate 3 (exact sd));rintro _ _ ⟨rfl,rfl⟩)|(refine Akz (Apz (Fkz _ _ _ ?_ ?_)) ?_;(iterate 2 (exact sd));rintro _ _ ⟨rfl,rfl⟩))
 | (refine Acz ⟨.inr rfl,[16000,16016],[(16000,1),(16016,1)],_,by decide,rfl,?_⟩;(try simp (disch:=omega) only [push_cast,seval,↓Adz,↓Abz,↓List.map_cons,↓List.map_nil,hv,ho])))<;>(try simp (disch:=omega) only [push_cast,seval,hv,ho])))
   all_goals simp [MV,MVB,MVL]
  | true =>
   have e:pmOk b sh st order=vV b (permL sh order) (permL st order):=by simp only [pmOk,hv,ho,Bool.true_and]
   rw [e]
   have ho2:=ho
   simp only [Bool.and_eq_true,decide_eq_true_eq,Boz] at ho2
   obtain ⟨⟨ho3,ho4⟩,-⟩:=ho2
   have hq:(sh.length≤4∧st.length=sh.length∧order.length=sh.length)∧∀ x∈order,0≤x∧x≤(sh.length:Int)-1:=⟨by omega,ho4⟩
   have l1:=A3z sh order
   have l2:=A3z st order
   have hq2:(permL sh order).length≤1099511627776∧(permL st order).length≤1099511627776:=by omega
   (repeat' ((first
 | (first|refine Afz ?_|refine Aaz ?_)
 | (first|refine Agz ?_|refine Aez ?_|refine Aoz ?_)
 | (first|refine Anz false ?_)
 | (first|(refine Akz (Apz (Azz _ _ _ _ _ ?_ ?_ ?_)) ?_;(iterate 3 (exact sd));rintro _ _ ⟨rfl,rfl⟩)|(refine Akz (Apz (Fkz _ _ _ ?_ ?_)) ?_;(iterate 2 (exact sd));rintro _ _ ⟨rfl,rfl⟩)|(refine Akz (spermuted_ok _ _ _ _ _ _ _ ?_ ?_ ?_ ?_) ?_;(iterate 4 (exact sd));rintro _ _ ⟨rfl,rfl⟩)|(refine Akz (Gez _ _ _ _ _ ?_ ?_ ?_) ?_;(iterate 3 (exact sd));rintro _ _ ⟨rfl,rfl⟩))
 | (refine Acz ⟨.inr rfl,[336,337],[],_,by decide,rfl,?_⟩;(try simp (disch:=omega) only [push_cast,seval,↓Adz,↓Abz,↓List.map_cons,↓List.map_nil,hv,ho])))<;>(try simp (disch:=omega) only [push_cast,seval,hv,ho])))
   all_goals exact ⟨rfl,rfl⟩

end Go.Proofs.YtapccmfnmiopoaaGreat
