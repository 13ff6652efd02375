/- Texts of this verifier. -/
import Derived.Test.YtfccepgibbdfaaaGreatDoorCB10
import Derived.Test.YtfccepgibbdfaaaGreatDoorCM1
import Derived.Test.YtfccepgibbdfaaaGreatDoorCW3
set_option maxHeartbeats 4000000
set_option linter.unusedSimpArgs false
set_option linter.unusedSectionVars false
set_option linter.unusedVariables false
set_option maxRecDepth 4000
namespace Go.Proofs.YtfccepgibbdfaaaGreatDoor
open VwM Vw Go
variable [SentA]
variable [PowA]

theorem Cvz (n:Int)(hn:0≤n∧n<10):PCall Tryz.prog 62 [.int .i64 n] (fun r=>∃ s:ByteArray,s.size≤5∧r=.str s):=by
 refine Atz l62_eq rfl ?_
 have h1:(n<0)=False:=eq_false (by omega)
 have h2:n<10:=by omega
 have hs:∀ (σ:List (Nat×AV)),lk σ 19=.int .i64 n→lk σ 21=.int .i64 (n+1)→arun (mkS σ []) 0 22 (.sliceS (.const (.string { data:={ toList:=[48,49,50,51,52,53,54,55,56,57] } })) (some (.tmp 19)) (some (.tmp 21)))=some (.str (ByteArray.extract { data:={ toList:=[48,49,50,51,52,53,54,55,56,57] } } n.toNat (n+1).toNat),none):=fun σ e1 e2 =>
  I2z rfl e1 e2 ⟨by omega,by show n+1≤10;omega⟩
 (repeat' (first
 | (first|refine Afz ?_|refine Abz ?_)
 | ((first|refine Agz ?_|refine Acz ?_|refine Amz ?_);simp (disch:=omega) only [push_cast,seval,h1,h2,decide_false])
 | (refine Adz ⟨.inr rfl,_,rfl,?_⟩;(try simp (disch:=omega) only [push_cast,seval,h1,h2,decide_false]))))
 rw [hs _ rfl rfl]
 simp (disch:=omega) only [push_cast,seval]
 (repeat' (first
 | (first|refine Afz ?_|refine Abz ?_)
 | (refine Adz ⟨.inr rfl,_,rfl,?_⟩;(try simp (disch:=omega) only [push_cast,seval,h1,h2,decide_false]))))
 exact ⟨_,by rw [ByteArray.size_extract];omega,rfl⟩


theorem K9z (n:Int)(hn:0≤n∧n<100):PCall Tryz.prog 62 [.int .i64 n] (fun r=>∃ s:ByteArray,s.size≤10∧r=.str s):=by
 by_cases h:n<10
 ·exact (Cvz n ⟨hn.1,h⟩).mono fun r ⟨s,h1,h2⟩=>⟨s,by omega,h2⟩
 refine Atz l62_eq rfl ?_
 have h1:(n<0)=False:=eq_false (by omega)
 have h2:¬ n<10:=by omega
 have q1:0≤n.tdiv 10∧n.tdiv 10<10:=by rw [Int.tdiv_eq_ediv_of_nonneg hn.1];omega
 have q2:=Dgz hn.1 (n:=10) (by omega)
 (repeat' ((first
 | (first|refine Afz ?_|refine Abz ?_)
 | (first|refine Agz ?_|refine Acz ?_|refine Amz ?_)
 | (first|refine Ajz false ?_)
 | (first|(refine Aiz (Akz (Cvz _ ?_)) ?_;(exact sd);rintro _ _ ⟨⟨sn,hsn,rfl⟩,rfl⟩))
 | (refine Adz ⟨.inr rfl,_,rfl,?_⟩))<;>(try simp (disch:=omega) only [push_cast,seval,h1,h2,decide_false])))
 exact ⟨_,by rw [ByteArray.size_append];omega,rfl⟩


theorem number3_ok (n:Int)(hn:0≤n∧n<1000):PCall Tryz.prog 62 [.int .i64 n] (fun r=>∃ s:ByteArray,s.size≤20∧r=.str s):=by
 by_cases h:n<100
 ·exact (K9z n ⟨hn.1,h⟩).mono fun r ⟨s,h1,h2⟩=>⟨s,by omega,h2⟩
 refine Atz l62_eq rfl ?_
 have h1:(n<0)=False:=eq_false (by omega)
 have h2:¬ n<10:=by omega
 have q1:0≤n.tdiv 10∧n.tdiv 10<100:=by rw [Int.tdiv_eq_ediv_of_nonneg hn.1];omega
 have q2:=Dgz hn.1 (n:=10) (by omega)
 (repeat' ((first
 | (first|refine Afz ?_|refine Abz ?_)
 | (first|refine Agz ?_|refine Acz ?_|refine Amz ?_)
 | (first|refine Ajz false ?_)
 | (first|(refine Aiz (Akz (Cvz _ ?_)) ?_;(exact sd);rintro _ _ ⟨⟨sn,hsn,rfl⟩,rfl⟩)|(refine Aiz (Akz (K9z _ ?_)) ?_;(exact sd);rintro _ _ ⟨⟨sn,hsn,rfl⟩,rfl⟩))
 | (refine Adz ⟨.inr rfl,_,rfl,?_⟩))<;>(try simp (disch:=omega) only [push_cast,seval,h1,h2,decide_false])))
 exact ⟨_,by rw [ByteArray.size_append];omega,rfl⟩


set_option maxHeartbeats 8000000 in
theorem numT_ok (xs:List Int)(n:Nat)(hn:xs.length=n)(hb:n≤100∧∀ x∈xs,0≤x∧x<1000):PCall Tryz.prog 60 [.rows false (IL xs) n] (fun r=>∃ s:ByteArray,s.size≤3000∧r=.str s):=by
 subst hn
 obtain ⟨hb1,hb2⟩:=hb
 refine Atz l60_eq rfl ?_
 (repeat' (first
 | (first|refine Afz ?_|refine Abz ?_)
 | ((first|refine Agz ?_);simp (disch:=omega) only [push_cast,seval])
 | (refine Adz ⟨.inr rfl,_,rfl,?_⟩;(try simp (disch:=omega) only [push_cast,seval]))))
 refine A5z (fun x:Nat×ByteArray=>mkS [(0,.rows false (IL xs) xs.length),(3,.str x.2),(4,.int .i64 x.1)] []) (fun x=>x.1≤xs.length∧x.2.size≤x.1*25) (fun x=>xs.length-x.1) (0,{ data:={ toList:=[] } }) ⟨Nat.zero_le _,by simp [bsz]⟩ ?_ ?_
 ·(refine Sub.of_lists ?_ ?_ ?_ ?_ ?_<;>simp [Vw.mkS,Vw.lk,Vw.hk,AV.inn,innL,Apz,Anz,Asz,-List.map_set,-List.getD_eq_getElem?_getD])
 ·rintro ⟨i,t⟩ ⟨hi,ht⟩
  simp only at hi ht ⊢
  by_cases hlt:i<xs.length
  ·have hx:=hb2 _ (Ddz hlt)
   have h32:({ data:={ toList:=[32] } }:ByteArray).size=1:=rfl
   have ht2:(t++({ data:={ toList:=[32] } }:ByteArray)).size=t.size+1:=by rw [ByteArray.size_append];rfl
   have hadd:=E4z t { data:={ toList:=[32] } } (by rw [h32];omega)
   (repeat' ((first
 | (first|refine Afz ?_|refine Abz ?_)
 | (first|refine Agz ?_|refine Acz ?_|refine Amz ?_)
 | ((first|refine Alz (fun h=>?_) (fun h=>?_))<;>(try simp only [h])<;>(try simp only [bitvec_to_nat] at h)<;>(try simp only [h])<;>(first|(exfalso;omega)|(exfalso;simp_all;done)|skip))
 | (first|refine Ajz false ?_)
 | (first|(refine Aiz (Akz (number3_ok _ ?_)) ?_;(exact sd);rintro _ _ ⟨⟨sn,hsn,rfl⟩,rfl⟩))
 | (refine Adz ⟨.inr rfl,_,rfl,?_⟩))<;>(try simp (disch:=omega) only [push_cast,seval,hlt,hadd])))
   refine ⟨(i+1,t++{ data:={ toList:=[32] } }++sn),⟨by simp only;omega,by simp only [ByteArray.size_append,h32];omega⟩,by simp only;omega,?_⟩
   (refine Sub.of_lists ?_ ?_ ?_ ?_ ?_<;>simp [Vw.mkS,Vw.lk,Vw.hk,AV.inn,innL,Apz,Anz,Asz,-List.map_set,-List.getD_eq_getElem?_getD])
  ·have e:i=xs.length:=by omega
   subst e
   (repeat' (first
 | (first|refine Afz ?_|refine Abz ?_)
 | ((first|refine Agz ?_|refine Acz ?_|refine Azz ?_);simp (disch:=omega) only [push_cast,seval])
 | ((first|refine Alz (fun h=>?_) (fun h=>?_))<;>(try simp only [h])<;>(try simp only [bitvec_to_nat] at h)<;>(try simp only [h])<;>(first|(exfalso;omega)|(exfalso;simp_all;done)|(simp (disch:=omega) only [push_cast,seval])|skip))
 | (refine Adz ⟨.inr rfl,_,rfl,?_⟩;(try simp (disch:=omega) only [push_cast,seval]))))
   exact ⟨_,by omega,rfl⟩

end Go.Proofs.YtfccepgibbdfaaaGreatDoor
namespace Go.Proofs.YtfccepgibbdfaaaGreatDoor
open VwM Vw Go
variable [SentA]
variable [PowA]

theorem Fuz {cs:List Int}{es:List Ex}(h:vB cs es=true):cs.length≤60∧es.length≤8∧exB 4 es:=by
 obtain ⟨h1,h2,_⟩:=vB_8 h
 refine ⟨h2,h1,fun e he=>?_⟩
 obtain ⟨i,hi,e1⟩:=List.mem_iff_getElem.1 he
 have hs:=Ekz.1 ((Ftz.1 h).2.2 i e (by rw [List.getElem?_eq_getElem hi,e1]))
 have hv:=hs.1.2
 have hg:=(Cbz (Cmz.1 hv).1).1.2
 have hl:=(Dsz hv).2
 exact ⟨hg,by omega⟩
theorem vB_x {cs:List Int}{es:List Ex}(h:vB cs es=true):cs.length≤1099511627776∧es.length≤1099511627776∧exB 1099511627776 es:=by
 obtain ⟨h1,h2,h3⟩:=Fuz h
 exact ⟨by omega,by omega,fun e he=>by have:=h3 e he;omega⟩
theorem zz_rng {cs:List Int}{N:Nat}(h:∀ x∈cs,0≤x∧x≤255):∀ x∈zz cs N,0≤x∧x≤255:=fun x hx=>by
 unfold zz at hx
 obtain ⟨j,_,rfl⟩:=List.mem_map.1 hx
 exact getD_rng h j
theorem vB_rz {cs:List Int}{es:List Ex}{s:Int}(h:rzG cs es s=true):vB (zz cs s.toNat) es=true:=by
 unfold rzG at h
 simp only [Bool.and_eq_true,decide_eq_true_eq,List.length_eq_zero_iff] at h
 refine vB_size h.1.1 h.2 (Cnz.2 ⟨by rw [Jgz];omega,zz_rng (Cnz.1 (Ftz.1 h.1.1).1).2⟩)
theorem rpt_rng {x:Int}{n:Nat}(h:0≤x∧x≤255):∀ y∈rpt [x] n,0≤y∧y≤255:=fun y hy=>by
 rw [L3z] at hy
 rw [(List.mem_replicate.1 hy).2]
 exact h
theorem vB_xf {cs:List Int}{es:List Ex}{id v:Int}(h:xfG cs es id v=true):vB (xfC cs es id v) es=true:=by
 unfold xfG at h
 simp only [Bool.and_eq_true,decide_eq_true_eq] at h
 exact vB_cells h.1.1 (Hez ..) (vMem_put (Ftz.1 h.1.1).1 _ _ (rpt_rng h.2))
theorem vB_xc {cs:List Int}{es:List Ex}{t f:Int}(h:xcG cs es t f=true):vB (xcC cs es t f) es=true:=by
 unfold xcG at h
 simp only [Bool.and_eq_true] at h
 have hm:=(Ftz.1 h.1.1.1).1
 exact vB_cells h.1.1.1 (C3z ..) (vMem_put hm _ _ (Faz (Cnz.1 hm).2))
abbrev OBd (q:Prop):AV→List (List AV)→Prop:=fun r H'=>∃ ok cs' es',(ok=true→vB cs' es'=true∧(q→1≤es'.length))∧(cs'.length≤60∧es'.length≤8∧exB 4 es')∧r=.tup [.agg [.own 0 cs'.length 1,.own 1 es'.length 5],.bool ok]∧H'=[IL cs',EL true es']
theorem Lnz {q:Prop}{P:Program}{f:Nat}{args:List AV}{G:Bool}{C:List Int}{E:List Ex}(hc:BCall P f args [] (OBs G (ifB G C) (ifB G E)))(h:G=true→vB C E=true∧(q→1≤E.length)):BCall P f args [] (OBd q):=hc.mono fun r H' h1=>by
 refine ⟨G,ifB G C,ifB G E,fun hg=>?_,?_,h1.1,h1.2⟩
 ·subst hg;exact h rfl
 ·cases hG:G with
  | false=>exact ⟨Nat.zero_le _,Nat.zero_le _,fun e he=>by cases he⟩
  | true=>exact Fuz (h hG).1
/-- The numbers that an act has. -/
def actK (k:Int)(nums:List Int):Prop:=(k=0∧∃ a,nums=[a])∨(k=1∧∃ a e s,nums=[a,e,s])∨(k=2∧∃ a b c d,nums=[a,b,c,d])∨(k=3∧∃ a,nums=[a])∨(k=4∧∃ a v,nums=[a,v])∨(k=5∧∃ a b,nums=[a,b])∨(k=6∧∃ a,nums=[a])∨(k=7∧∃ a,nums=[a])


theorem rzD_ok (cs:List Int)(es:List Ex)(m n:Nat)(s:Int)(hm:cs.length=m)(hn:es.length=n)(hv:vB cs es=true) :
  BCall Tryz.prog 94 [.agg [.rows false (IL cs) m,.rows false (EL false es) n],.int .i64 s] [] (OBd False):=by
 subst hm hn
 exact Lnz (sRz_ok cs es _ _ s rfl rfl (vB_x hv)) fun h=>⟨vB_rz h,fun h=>h.elim⟩


theorem evD_ok (cs:List Int)(es:List Ex)(m n:Nat)(b e s:Int)(hm:cs.length=m)(hn:es.length=n)(hv:vB cs es=true) :
  BCall Tryz.prog 95 [.agg [.rows false (IL cs) m,.rows false (EL false es) n],.agg [.int .i64 b,.rows false [.int .i64 e] 1,.rows false [.int .i64 s] 1]] [] (OBd True):=by
 subst hm hn
 exact Lnz (sEV_ok cs es _ _ b [e] [s] 1 1 rfl rfl rfl rfl ⟨⟨by decide,by decide⟩,vB_x hv⟩) fun h=>⟨vB_ev h,fun _=>by simp⟩


theorem epD_ok (cs:List Int)(es:List Ex)(m n:Nat)(id d f t w:Int)(hf ht:Bool)(hm:cs.length=m)(hn:es.length=n)(hv:vB cs es=true) :
  BCall Tryz.prog 96 [.agg [.rows false (IL cs) m,.rows false (EL false es) n],.int .i64 id,.int .i64 d,slc f t w hf ht] [] (OBd True):=by
 subst hm hn
 exact Lnz (sEP_ok cs es _ _ id d f t w hf ht rfl rfl (vB_x hv)) fun h=>⟨vB_ep h,fun _=>by unfold epE;simp⟩


theorem xfD_ok (cs:List Int)(es:List Ex)(m n:Nat)(id v:Int)(hm:cs.length=m)(hn:es.length=n)(hv:vB cs es=true) :
  BCall Tryz.prog 97 [.agg [.rows false (IL cs) m,.rows false (EL false es) n],.int .i64 id,.int .i64 v] [] (OBd False):=by
 subst hm hn
 exact Lnz (sFE_ok cs es _ _ id v rfl rfl (vB_x hv)) fun h=>⟨vB_xf h,fun h=>h.elim⟩


theorem xcD_ok (cs:List Int)(es:List Ex)(m n:Nat)(t f:Int)(hm:cs.length=m)(hn:es.length=n)(hv:vB cs es=true) :
  BCall Tryz.prog 98 [.agg [.rows false (IL cs) m,.rows false (EL false es) n],.int .i64 t,.int .i64 f] [] (OBd False):=by
 subst hm hn
 exact Lnz (sCE_ok cs es _ _ t f rfl rfl (vB_x hv)) fun h=>⟨vB_xc h,fun h=>h.elim⟩


theorem rlD_ok (cs:List Int)(es:List Ex)(m n:Nat)(id:Int)(hm:cs.length=m)(hn:es.length=n)(hv:vB cs es=true) :
  BCall Tryz.prog 99 [.agg [.rows false (IL cs) m,.rows false (EL false es) n],.int .i64 id] [] (OBd False):=by
 subst hm hn
 exact Lnz (sRel_ok cs es _ _ id rfl rfl (vB_x hv)) fun h=>⟨vB_relG h,fun h=>h.elim⟩


set_option maxHeartbeats 16000000 in
theorem done_ok (cs:List Int)(es:List Ex)(m n:Nat)(k:Int)(nums:List Int)(l:Nat)(hm:cs.length=m)(hn:es.length=n)(hl:nums.length=l)(hv:vB cs es=true)(hk:actK k nums)(h6:k≠6) :
  BCall Tryz.prog 59 [.agg [.rows false (IL cs) m,.rows false (EL false es) n],.agg [.int .i64 k,.rows false (IL nums) l]] [] (OBd (k=1∨k=2∨k=3)):=by
 subst hm hn hl
 have hel:=Auz false es
 refine Avz (pins:=[]) (pin:=0) l59_eq rfl rfl rfl ?_
 rcases hk with ⟨rfl,a,rfl⟩|⟨rfl,a,e,s,rfl⟩|⟨rfl,a,b,c,d,rfl⟩|⟨rfl,a,rfl⟩|⟨rfl,a,v,rfl⟩|⟨rfl,a,b,rfl⟩|⟨rfl,a,rfl⟩|⟨rfl,a,rfl⟩
 ·(repeat' ((first
 | (first|refine Afz ?_|refine Abz ?_)
 | (first|refine Agz ?_|refine Arz (mid:=l59r4a) (post:=l59r4b) mixed (by decide) ?_|refine Acz ?_)
 | (first|refine Aqz false ?_)
 | (first|(refine Aoz (rzD_ok _ _ _ _ _ ?_ ?_ ?_) ⟨_,_,false,[],[],(fun h=>by cases h),⟨Nat.zero_le _,Nat.zero_le _,fun e he=>by cases he⟩,rfl,rfl⟩ ?_;(iterate 3 (exact sd));rintro _ _ ⟨ok,cs',es',hok,hbd,rfl,rfl⟩))
 | (refine Adz ⟨.inr rfl,[272,273],[],_,by decide,rfl,?_⟩;(try simp (disch:=omega) only [push_cast,seval,↓Ahz,↓Aez,↓List.map_cons,↓List.map_nil,hel,Aaz,IL])))<;>(try simp (disch:=omega) only [push_cast,seval,hel,Aaz,IL])))
  all_goals exact ⟨ok,cs',es',fun h=>⟨(hok h).1,fun hq=>by first|exact (hok h).2 trivial|(exact absurd hq (by decide))⟩,hbd,rfl,rfl⟩
 ·(repeat' ((first
 | (first|refine Afz ?_|refine Abz ?_)
 | (first|refine Agz ?_|refine Bbz (mid:=l59r6a) (post:=l59r6b) [] mixed (by decide) ?_|refine Acz ?_)
 | (first|refine Aqz false ?_)
 | (first|(refine Aoz (evD_ok _ _ _ _ _ _ _ ?_ ?_ ?_) ⟨_,_,false,[],[],(fun h=>by cases h),⟨Nat.zero_le _,Nat.zero_le _,fun e he=>by cases he⟩,rfl,rfl⟩ ?_;(iterate 3 (exact sd));rintro _ _ ⟨ok,cs',es',hok,hbd,rfl,rfl⟩))
 | (refine Adz ⟨.inr rfl,[560,561],[],_,by decide,rfl,?_⟩;(try simp (disch:=omega) only [push_cast,seval,↓Ahz,↓Aez,↓List.map_cons,↓List.map_nil,hel,Aaz,IL])))<;>(try simp (disch:=omega) only [push_cast,seval,hel,Aaz,IL])))
  all_goals exact ⟨ok,cs',es',fun h=>⟨(hok h).1,fun hq=>by first|exact (hok h).2 trivial|(exact absurd hq (by decide))⟩,hbd,rfl,rfl⟩
 ·(repeat' ((first
 | (first|refine Afz ?_|refine Abz ?_)
 | (first|refine Agz ?_|refine Arz (mid:=l59r8a) (post:=l59r8b) mixed (by decide) ?_|refine Acz ?_)
 | (first|refine Aqz false ?_)
 | (first|(refine Aoz (epD_ok _ _ _ _ _ _ _ _ _ _ _ ?_ ?_ ?_) ⟨_,_,false,[],[],(fun h=>by cases h),⟨Nat.zero_le _,Nat.zero_le _,fun e he=>by cases he⟩,rfl,rfl⟩ ?_;(iterate 3 (exact sd));rintro _ _ ⟨ok,cs',es',hok,hbd,rfl,rfl⟩))
 | (refine Adz ⟨.inr rfl,[864,865],[],_,by decide,rfl,?_⟩;(try simp (disch:=omega) only [push_cast,seval,↓Ahz,↓Aez,↓List.map_cons,↓List.map_nil,hel,Aaz,IL])))<;>(try simp (disch:=omega) only [push_cast,seval,hel,Aaz,IL])))
  all_goals exact ⟨ok,cs',es',fun h=>⟨(hok h).1,fun hq=>by first|exact (hok h).2 trivial|(exact absurd hq (by decide))⟩,hbd,rfl,rfl⟩
 ·(repeat' ((first
 | (first|refine Afz ?_|refine Abz ?_)
 | (first|refine Agz ?_|refine Arz (mid:=l59r10a) (post:=l59r10b) mixed (by decide) ?_|refine Acz ?_)
 | (first|refine Aqz false ?_)
 | (first|(refine Aoz (epD_ok _ _ _ _ _ _ _ _ _ _ _ ?_ ?_ ?_) ⟨_,_,false,[],[],(fun h=>by cases h),⟨Nat.zero_le _,Nat.zero_le _,fun e he=>by cases he⟩,rfl,rfl⟩ ?_;(iterate 3 (exact sd));rintro _ _ ⟨ok,cs',es',hok,hbd,rfl,rfl⟩))
 | (refine Adz ⟨.inr rfl,[1024,1025],[],_,by decide,rfl,?_⟩;(try simp (disch:=omega) only [push_cast,seval,↓Ahz,↓Aez,↓List.map_cons,↓List.map_nil,hel,Aaz,IL])))<;>(try simp (disch:=omega) only [push_cast,seval,hel,Aaz,IL])))
  all_goals exact ⟨ok,cs',es',fun h=>⟨(hok h).1,fun hq=>by first|exact (hok h).2 trivial|(exact absurd hq (by decide))⟩,hbd,rfl,rfl⟩
 ·(repeat' ((first
 | (first|refine Afz ?_|refine Abz ?_)
 | (first|refine Agz ?_|refine Arz (mid:=l59r12a) (post:=l59r12b) mixed (by decide) ?_|refine Acz ?_)
 | (first|refine Aqz false ?_)
 | (first|(refine Aoz (xfD_ok _ _ _ _ _ _ ?_ ?_ ?_) ⟨_,_,false,[],[],(fun h=>by cases h),⟨Nat.zero_le _,Nat.zero_le _,fun e he=>by cases he⟩,rfl,rfl⟩ ?_;(iterate 3 (exact sd));rintro _ _ ⟨ok,cs',es',hok,hbd,rfl,rfl⟩))
 | (refine Adz ⟨.inr rfl,[1216,1217],[],_,by decide,rfl,?_⟩;(try simp (disch:=omega) only [push_cast,seval,↓Ahz,↓Aez,↓List.map_cons,↓List.map_nil,hel,Aaz,IL])))<;>(try simp (disch:=omega) only [push_cast,seval,hel,Aaz,IL])))
  all_goals exact ⟨ok,cs',es',fun h=>⟨(hok h).1,fun hq=>by first|exact (hok h).2 trivial|(exact absurd hq (by decide))⟩,hbd,rfl,rfl⟩
 ·(repeat' ((first
 | (first|refine Afz ?_|refine Abz ?_)
 | (first|refine Agz ?_|refine Arz (mid:=l59r14a) (post:=l59r14b) mixed (by decide) ?_|refine Acz ?_)
 | (first|refine Aqz false ?_)
 | (first|(refine Aoz (xcD_ok _ _ _ _ _ _ ?_ ?_ ?_) ⟨_,_,false,[],[],(fun h=>by cases h),⟨Nat.zero_le _,Nat.zero_le _,fun e he=>by cases he⟩,rfl,rfl⟩ ?_;(iterate 3 (exact sd));rintro _ _ ⟨ok,cs',es',hok,hbd,rfl,rfl⟩))
 | (refine Adz ⟨.inr rfl,[1408,1409],[],_,by decide,rfl,?_⟩;(try simp (disch:=omega) only [push_cast,seval,↓Ahz,↓Aez,↓List.map_cons,↓List.map_nil,hel,Aaz,IL])))<;>(try simp (disch:=omega) only [push_cast,seval,hel,Aaz,IL])))
  all_goals exact ⟨ok,cs',es',fun h=>⟨(hok h).1,fun hq=>by first|exact (hok h).2 trivial|(exact absurd hq (by decide))⟩,hbd,rfl,rfl⟩
 ·exact absurd rfl h6
 ·(repeat' ((first
 | (first|refine Afz ?_|refine Abz ?_)
 | (first|refine Agz ?_|refine Arz (mid:=l59r16a) (post:=l59r16b) mixed (by decide) ?_|refine Acz ?_)
 | (first|refine Aqz false ?_)
 | (first|(refine Aoz (rlD_ok _ _ _ _ _ ?_ ?_ ?_) ⟨_,_,false,[],[],(fun h=>by cases h),⟨Nat.zero_le _,Nat.zero_le _,fun e he=>by cases he⟩,rfl,rfl⟩ ?_;(iterate 3 (exact sd));rintro _ _ ⟨ok,cs',es',hok,hbd,rfl,rfl⟩))
 | (refine Adz ⟨.inr rfl,[1552,1553],[],_,by decide,rfl,?_⟩;(try simp (disch:=omega) only [push_cast,seval,↓Ahz,↓Aez,↓List.map_cons,↓List.map_nil,hel,Aaz,IL])))<;>(try simp (disch:=omega) only [push_cast,seval,hel,Aaz,IL])))
  all_goals exact ⟨ok,cs',es',fun h=>⟨(hok h).1,fun hq=>by first|exact (hok h).2 trivial|(exact absurd hq (by decide))⟩,hbd,rfl,rfl⟩


abbrev OBe (q:List Ex→Prop):AV→List (List AV)→Prop:=fun r H'=>(∃ cs' es',r=.tup [.agg [.own 0 cs'.length 1,.own 1 es'.length 5],.bool false]∧H'=[IL cs',EL true es'])∨∃ cs' es',(vB cs' es'=true∧(cs'.length≤60∧es'.length≤8∧exB 4 es')∧q es')∧r=.tup [.agg [.own 0 cs'.length 1,.own 1 es'.length 5],.bool true]∧H'=[IL cs',EL true es']
theorem OBe_of {P:Program}{f:Nat}{args:List AV}{p:Prop}{q:List Ex→Prop}(h:BCall P f args [] (OBd p))(hq:∀ es:List Ex,(p→1≤es.length)→q es):BCall P f args [] (OBe q):=h.mono fun r H'=>by
 rintro ⟨ok,cs',es',hok,hbd,h1,h2⟩
 cases ok with
 | false=>exact .inl ⟨cs',es',h1,h2⟩
 | true=>exact .inr ⟨cs',es',⟨(hok rfl).1,hbd,hq _ (hok rfl).2⟩,h1,h2⟩


theorem Mqz (cs:List Int)(es:List Ex)(m n:Nat)(k:Int)(nums:List Int)(l:Nat)(hm:cs.length=m)(hn:es.length=n)(hl:nums.length=l)(hv:vB cs es=true)(hk:actK k nums)(h6:k=1∨k=2∨k=3) :
  BCall Tryz.prog 59 [.agg [.rows false (IL cs) m,.rows false (EL false es) n],.agg [.int .i64 k,.rows false (IL nums) l]] [] (OBe fun es=>1≤es.length) :=
 OBe_of (done_ok cs es m n k nums l hm hn hl hv hk (by omega)) fun es h=>h h6
theorem doneO_ok (cs:List Int)(es:List Ex)(m n:Nat)(k:Int)(nums:List Int)(l:Nat)(hm:cs.length=m)(hn:es.length=n)(hl:nums.length=l)(hv:vB cs es=true)(hk:actK k nums)(h6:¬ (k=1∨k=2∨k=3)∧k≠6) :
  BCall Tryz.prog 59 [.agg [.rows false (IL cs) m,.rows false (EL false es) n],.agg [.int .i64 k,.rows false (IL nums) l]] [] (OBe fun _=>True) :=
 OBe_of (done_ok cs es m n k nums l hm hn hl hv hk h6.2) fun _ _=>trivial

end Go.Proofs.YtfccepgibbdfaaaGreatDoor
namespace Go.Proofs.YtfccepgibbdfaaaGreatDoor
open VwM Vw Go
variable [SentA]
variable [PowA]



theorem done6_ok (cs:List Int)(es:List Ex)(m n:Nat)(a:Int)(hm:cs.length=m)(hn:es.length=n)(hv:vB cs es=true) :
  BCall Tryz.prog 59 [.agg [.own 0 m 1,.own 1 n 5],.agg [.int .i64 6,.own 2 1 1]] [IL cs,EL false es,[.int .i64 a]] (fun r H'=>r=.tup [.agg [.own 0 m 1,.own 1 n 5],.bool (opA es a)]∧H'=[IL cs,EL false es,[.int .i64 a]]):=by
 subst hm hn
 have hel:=Auz false es
 have hb2:cs.length≤1099511627776∧es.length≤1099511627776:=⟨(vB_x hv).1,(vB_x hv).2.1⟩
 refine Avz (pins:=[0,1,2]) (pin:=3) l59_eq rfl rfl rfl ?_
 (repeat' ((first
 | (first|refine Afz ?_|refine Abz ?_)
 | (first|refine Agz ?_|refine Arz (mid:=l59r17a) (post:=l59r17b) mixed (by decide) ?_|refine Acz ?_|refine Amz ?_)
 | (first|refine Aqz false ?_)
 | (first|(refine Aoz (Akz (Cyz _ _ _ _ _ ?_ ?_ ?_)) ⟨_,_,rfl,rfl⟩ ?_;(iterate 3 (exact sd));rintro _ _ ⟨rfl,rfl⟩))
 | (refine Adz ⟨.inr rfl,[],[],_,by decide,rfl,?_⟩;(try simp (disch:=omega) only [push_cast,seval,↓Ahz,↓Aez,↓List.map_cons,↓List.map_nil,hel,Aaz])))<;>(try simp (disch:=omega) only [push_cast,seval,hel,Aaz])))
 all_goals skip


abbrev OBa (cs:List Int)(es:List Ex)(nums:List Int)(m n:Nat):AV→List (List AV)→Prop:=fun r H'=>(∃ s,r=.tup [.agg [.own 0 m 1,.own 1 n 5],.str s]∧H'=[IL cs,EL false es,IL nums])∨∃ cs' es' s,vB cs' es'=true∧r=.tup [.agg [.own 3 cs'.length 1,.own 4 es'.length 5],.str s]∧H'=[IL cs,EL false es,IL nums,IL cs',EL true es']


set_option maxHeartbeats 16000000 in
theorem apply6_ok (cs:List Int)(es:List Ex)(a:Int)(hv:vB cs es=true) :
  BCall Tryz.prog 26 [.agg [.own 0 cs.length 1,.own 1 es.length 5],.agg [.int .i64 6,.own 2 1 1]] [IL cs,EL false es,[.int .i64 a]] (OBa cs es [a] cs.length es.length):=by
 have hel:=Auz false es
 have hbb:=Fuz hv
 refine Avz (pins:=[0,1,2]) (pin:=3) l26_eq rfl rfl rfl ?_
 cases ho:opA es a with
 | false =>
  (repeat' ((first
 | (first|refine Afz ?_|refine Abz ?_)
 | (first|refine Agz ?_|refine Acz ?_)
 | (first|((with_reducible refine A9z (f:=59) [0,1,2] true ?_);simp (disch:=omega) only [push_cast,seval,ho,hel,Aaz];(refine callND (by decide) (done6_ok _ _ _ _ _ ?_ ?_ ?_) (by (simp (disch:=omega) only [push_cast,seval,ho,hel,Aaz])<;>rfl) ?_;(iterate 3 (exact sd));rintro _ _ ⟨rfl,rfl⟩)))
 | (refine Adz ⟨.inr rfl,[],[],_,by decide,rfl,?_⟩;(try simp (disch:=omega) only [push_cast,seval,↓Ahz,↓Aez,↓List.map_cons,↓List.map_nil,ho,hel,Aaz])))<;>(try simp (disch:=omega) only [push_cast,seval,ho,hel,Aaz])))
  all_goals exact .inl ⟨_,rfl,rfl⟩
 | true =>
  obtain ⟨q,p,b,x,y,rfl,hq,he,hvw⟩:=Dbz ho
  have hs:=D1z hv he
  have hil:q*5+5≤es.length*5:=by omega
  have h3:=Eiz he
  have hi:=(see_prX hs).1
  have htl:(takesL cs (offs b x y)).length=(offs b x y).length:=takesL_length ..
  have htb:=Faz (L:=offs b x y) (Cnz.1 (Ftz.1 hv).1).2
  have hq5:(takesL cs (offs b x y)).length≤100∧∀ v∈takesL cs (offs b x y),0≤v∧v<1000:=⟨by omega,fun v hv=>by have:=htb v hv;omega⟩
  have h3s:({ data:={ toList:=[104,97,115] } }:ByteArray).size=3:=rfl
  (repeat' ((first
 | (first|refine Afz ?_|refine Abz ?_)
 | (first|refine Agz ?_|refine Bbz (mid:=l26r5a) (post:=l26r5b) [64] mixed (by decide) ?_|refine Acz ?_)
 | (first|((with_reducible refine A9z (f:=59) [0,1,2] true ?_);simp (disch:=omega) only [push_cast,seval,ho,hel,hil,h3,Aaz];(refine callND (by decide) (done6_ok _ _ _ _ _ ?_ ?_ ?_) (by (simp (disch:=omega) only [push_cast,seval,ho,hel,hil,h3,Aaz])<;>rfl) ?_;(iterate 3 (exact sd));rintro _ _ ⟨rfl,rfl⟩)))
 | (first|refine Aqz false ?_)
 | (first|(refine Aoz (Akz (G1z (I7z _ _ _ _ _ _ _ ?_ ?_ ?_ ?_))) ⟨_,_,rfl,rfl⟩ ?_;(iterate 4 (exact sd));rintro _ _ ⟨rfl,rfl⟩)|(refine Aoz (Akz (numT_ok _ _ ?_ ?_)) ⟨.str ByteArray.empty,[],⟨ByteArray.empty,Nat.zero_le _,rfl⟩,rfl⟩ ?_;(iterate 2 (exact sd));rintro _ _ ⟨⟨st,hst,rfl⟩,rfl⟩))
 | (refine Adz ⟨.inr rfl,[],[],_,by decide,rfl,?_⟩;(try simp (disch:=omega) only [push_cast,seval,↓Ahz,↓Aez,↓List.map_cons,↓List.map_nil,ho,hel,hil,h3,Aaz])))<;>(try simp (disch:=omega) only [push_cast,seval,ho,hel,hil,h3,Aaz])))
  all_goals exact .inl ⟨_,rfl,rfl⟩




set_option maxHeartbeats 16000000 in
theorem apply_ok (cs:List Int)(es:List Ex)(m n:Nat)(k:Int)(nums:List Int)(l:Nat)(hm:cs.length=m)(hn:es.length=n)(hl:nums.length=l)(hv:vB cs es=true)(hk:actK k nums) :
  BCall Tryz.prog 26 [.agg [.own 0 m 1,.own 1 n 5],.agg [.int .i64 k,.own 2 l 1]] [IL cs,EL false es,IL nums] (OBa cs es nums m n):=by
 subst hm hn hl
 by_cases h6:k=6
 ·subst h6
  have hk':∃ a,nums=[a]:=by
   rcases hk with h|h|h|h|h|h|h|h
   all_goals first|exact h.2|(exact absurd h.1 (by decide))
  obtain ⟨a,rfl⟩:=hk'
  exact apply6_ok cs es a hv
 have hel:=Auz false es
 have hbb:=Fuz hv
 refine Avz (pins:=[0,1,2]) (pin:=3) l26_eq rfl rfl rfl ?_
 by_cases h13:k=1∨k=2∨k=3
 ·have h3s:({ data:={ toList:=[97,116,32] } }:ByteArray).size=3:=rfl
  rcases h13 with rfl|rfl|rfl
  ·(repeat' ((first
 | (first|refine Afz ?_|refine Abz ?_)
 | (first|refine Agz ?_|refine Bbz (mid:=l26r7a) (post:=l26r7b) [64] mixed (by decide) ?_|refine Acz ?_)
 | (first|refine Ajz false ?_|refine Aqz false ?_)
 | (first|(refine Aiz (Mqz _ _ _ _ _ _ _ ?_ ?_ ?_ ?_ ?_ ?_) ?_;(iterate 6 (exact sd));rintro _ _ (⟨csF,esF',rfl,rfl⟩|⟨cs',es',⟨hvD,hbD,hqD⟩,rfl,rfl⟩))|((first|refine Aiz (Akz (Cvz _ ?_)) ?_|refine Aoz (Akz (Cvz _ ?_)) ⟨.str ByteArray.empty,[],⟨ByteArray.empty,Nat.zero_le _,rfl⟩,rfl⟩ ?_);(exact sd);rintro _ _ ⟨⟨sn,hsn,rfl⟩,rfl⟩)))<;>(try simp (disch:=omega) only [push_cast,seval,hel,Aaz])))
   all_goals first|((refine Adz ⟨.inr rfl,[176,177],[],_,by decide,rfl,?_⟩;(try simp (disch:=omega) only [push_cast,seval,↓Ahz,↓Aez,↓List.map_cons,↓List.map_nil,hel,Aaz]));exact .inr ⟨_,_,_,hvD,rfl,rfl⟩)|((refine Adz ⟨.inr rfl,[],[],_,by decide,rfl,?_⟩;(try simp (disch:=omega) only [push_cast,seval,↓Ahz,↓Aez,↓List.map_cons,↓List.map_nil,hel,Aaz]));exact .inl ⟨_,rfl,rfl⟩)|skip
  ·(repeat' ((first
 | (first|refine Afz ?_|refine Abz ?_)
 | (first|refine Agz ?_|refine Bbz (mid:=l26r7a) (post:=l26r7b) [64] mixed (by decide) ?_|refine Acz ?_)
 | (first|refine Ajz false ?_|refine Aqz false ?_)
 | (first|(refine Aiz (Mqz _ _ _ _ _ _ _ ?_ ?_ ?_ ?_ ?_ ?_) ?_;(iterate 6 (exact sd));rintro _ _ (⟨csF,esF',rfl,rfl⟩|⟨cs',es',⟨hvD,hbD,hqD⟩,rfl,rfl⟩))|((first|refine Aiz (Akz (Cvz _ ?_)) ?_|refine Aoz (Akz (Cvz _ ?_)) ⟨.str ByteArray.empty,[],⟨ByteArray.empty,Nat.zero_le _,rfl⟩,rfl⟩ ?_);(exact sd);rintro _ _ ⟨⟨sn,hsn,rfl⟩,rfl⟩)))<;>(try simp (disch:=omega) only [push_cast,seval,hel,Aaz])))
   all_goals first|((refine Adz ⟨.inr rfl,[176,177],[],_,by decide,rfl,?_⟩;(try simp (disch:=omega) only [push_cast,seval,↓Ahz,↓Aez,↓List.map_cons,↓List.map_nil,hel,Aaz]));exact .inr ⟨_,_,_,hvD,rfl,rfl⟩)|((refine Adz ⟨.inr rfl,[],[],_,by decide,rfl,?_⟩;(try simp (disch:=omega) only [push_cast,seval,↓Ahz,↓Aez,↓List.map_cons,↓List.map_nil,hel,Aaz]));exact .inl ⟨_,rfl,rfl⟩)|skip
  ·(repeat' ((first
 | (first|refine Afz ?_|refine Abz ?_)
 | (first|refine Agz ?_|refine Bbz (mid:=l26r7a) (post:=l26r7b) [64] mixed (by decide) ?_|refine Acz ?_)
 | (first|refine Ajz false ?_|refine Aqz false ?_)
 | (first|(refine Aiz (Mqz _ _ _ _ _ _ _ ?_ ?_ ?_ ?_ ?_ ?_) ?_;(iterate 6 (exact sd));rintro _ _ (⟨csF,esF',rfl,rfl⟩|⟨cs',es',⟨hvD,hbD,hqD⟩,rfl,rfl⟩))|((first|refine Aiz (Akz (Cvz _ ?_)) ?_|refine Aoz (Akz (Cvz _ ?_)) ⟨.str ByteArray.empty,[],⟨ByteArray.empty,Nat.zero_le _,rfl⟩,rfl⟩ ?_);(exact sd);rintro _ _ ⟨⟨sn,hsn,rfl⟩,rfl⟩)))<;>(try simp (disch:=omega) only [push_cast,seval,hel,Aaz])))
   all_goals first|((refine Adz ⟨.inr rfl,[176,177],[],_,by decide,rfl,?_⟩;(try simp (disch:=omega) only [push_cast,seval,↓Ahz,↓Aez,↓List.map_cons,↓List.map_nil,hel,Aaz]));exact .inr ⟨_,_,_,hvD,rfl,rfl⟩)|((refine Adz ⟨.inr rfl,[],[],_,by decide,rfl,?_⟩;(try simp (disch:=omega) only [push_cast,seval,↓Ahz,↓Aez,↓List.map_cons,↓List.map_nil,hel,Aaz]));exact .inl ⟨_,rfl,rfl⟩)|skip
 ·have h14:¬ (k=1∨k=2∨k=3)∧k≠6:=⟨h13,h6⟩
  have n6:(k=6)=False:=eq_false h6
  have n1:(k=1)=False:=eq_false (by omega)
  have n2:(k=2)=False:=eq_false (by omega)
  have n3:(k=3)=False:=eq_false (by omega)
  (repeat' ((first
 | (first|refine Afz ?_|refine Abz ?_)
 | (first|refine Agz ?_|refine Acz ?_|refine Amz ?_)
 | (first|refine Ajz false ?_)
 | (first|(refine Aiz (doneO_ok _ _ _ _ _ _ _ ?_ ?_ ?_ ?_ ?_ ?_) ?_;(iterate 6 (exact sd));rintro _ _ (⟨csF,esF',rfl,rfl⟩|⟨cs',es',⟨hvD,hbD,hqD⟩,rfl,rfl⟩))))<;>(try simp (disch:=omega) only [push_cast,seval,hel,n6,n1,n2,n3,Aaz])))
  all_goals first|((refine Adz ⟨.inr rfl,[176,177],[],_,by decide,rfl,?_⟩;(try simp (disch:=omega) only [push_cast,seval,↓Ahz,↓Aez,↓List.map_cons,↓List.map_nil,hel,Aaz]));exact .inr ⟨_,_,_,hvD,rfl,rfl⟩)|((refine Adz ⟨.inr rfl,[],[],_,by decide,rfl,?_⟩;(try simp (disch:=omega) only [push_cast,seval,↓Ahz,↓Aez,↓List.map_cons,↓List.map_nil,hel,Aaz]));exact .inl ⟨_,rfl,rfl⟩)|skip

end Go.Proofs.YtfccepgibbdfaaaGreatDoor
namespace Go.Proofs.YtfccepgibbdfaaaGreatDoor
open VwM Vw Go
variable [SentA]
variable [PowA]

theorem actK_rest {k a:Int}(hx:k∈unI [AV.int IntKind.i64 1,AV.int IntKind.i64 2,AV.int IntKind.i64 3,AV.int IntKind.i64 4,AV.int IntKind.i64 5,AV.int IntKind.i64 6,AV.int IntKind.i64 7,AV.int IntKind.i64 0,AV.int IntKind.i64 6,AV.int IntKind.i64 4])(h:(k≠0∧k≠1∧k≠2)∧k≠4∧k≠5):actK k [a]:=by
 simp only [Hlz,Jjz,List.mem_cons,List.not_mem_nil,or_false] at hx
 have h3:k=3∨k=6∨k=7:=by omega
 rcases h3 with rfl|rfl|rfl
 ·exact .inr (.inr (.inr (.inl ⟨rfl,_,rfl⟩)))
 ·exact .inr (.inr (.inr (.inr (.inr (.inr (.inl ⟨rfl,_,rfl⟩))))))
 ·exact .inr (.inr (.inr (.inr (.inr (.inr (.inr ⟨rfl,_,rfl⟩))))))


set_option maxHeartbeats 16000000 in
theorem Jkz (bs:List Int)(p:Int)(cs:List Int)(es:List Ex)(m n:Nat)(hm:cs.length=m)(hn:es.length=n)(hbs:okB bs)(hp:0≤p∧p≤900000)(hq:cs.length≤61∧es.length≤9∧exB 4 es) :
  BCall Tryz.prog 82 [.ref 0 2 0,.agg [.own 1 m 1,.own 2 n 5]] [RD bs p,IL cs,EL false es] (fun r H'=>∃ k nums p',actK k nums∧(p≤p'∧p'≤p+10)∧r=.agg [.int .i64 k,.own 3 nums.length 1]∧H'=[RD bs p',IL cs,EL false es,IL nums]):=by
 subst hm hn
 have hel:=Auz false es
 have hq8:cs.length≤1099511627776∧es.length≤1099511627776∧exB 1099511627776 es:=⟨by omega,by omega,fun e he=>by have:=hq.2.2 e he;omega⟩
 obtain ⟨hp1,hp2⟩:=hp
 obtain ⟨v1,v2,v3⟩:=hq
 have hol:=K6z cs es
 generalize hO:opensA cs es=O at *
 refine Avz (pins:=[0,1,2]) (pin:=3) l82_eq rfl rfl rfl ?_
 (repeat' ((first
 | (first|refine Afz ?_|refine Abz ?_)
 | (first|refine Agz ?_|refine Acz ?_|refine Amz ?_)
 | ((first|refine Alz (fun h=>?_) (fun h=>?_)|refine A4z (fun h=>?_) (fun h=>?_))<;>(try simp only [h])<;>(try simp only [bitvec_to_nat] at h)<;>(try simp only [h])<;>(first|(exfalso;omega)|(exfalso;simp_all;done)|skip))
 | (first|((with_reducible refine A9z (f:=80) [0] true ?_);simp (disch:=omega) only [push_cast,seval,hO,hel,Aaz];(refine I1z (id:=0) (Jwz _ _ _ ?_ ?_) (by (simp (disch:=omega) only [push_cast,seval,hO,hel,Aaz])<;>rfl) ?_;(iterate 2 (exact sd));rintro _ _ ⟨x,hx0,hx1,rfl,rfl⟩))|((with_reducible refine A9z (f:=81) (args:=[Operand.tmp 31,Operand.tmp 32]) [0,512] true ?_);simp (disch:=omega) only [push_cast,seval,hO,hel,Aaz];(refine E2z (id:=0) (id':=512) (by decide) (Huz _ _ _ _ ?_ ?_ ?_ ?_ ?_) (by (simp (disch:=omega) only [push_cast,seval,hO,hel,Aaz])<;>rfl) (by (simp (disch:=omega) only [push_cast,seval,hO,hel,Aaz])<;>rfl) ?_;(iterate 5 (exact sd));rintro _ _ ⟨x,hx,hx0,rfl,rfl⟩))|((with_reducible refine A9z (f:=81) (args:=[Operand.tmp 42,Operand.tmp 43]) [0,688] true ?_);simp (disch:=omega) only [push_cast,seval,hO,hel,Aaz];(refine E2z (id:=0) (id':=688) (by decide) (Huz _ _ _ _ ?_ ?_ ?_ ?_ ?_) (by (simp (disch:=omega) only [push_cast,seval,hO,hel,Aaz])<;>rfl) (by (simp (disch:=omega) only [push_cast,seval,hO,hel,Aaz])<;>rfl) ?_;(iterate 5 (exact sd));rintro _ _ ⟨x,hx,hx0,rfl,rfl⟩))|((with_reducible refine A9z (f:=81) (args:=[Operand.tmp 52,Operand.tmp 53]) [0,848] true ?_);simp (disch:=omega) only [push_cast,seval,hO,hel,Aaz];(refine E2z (id:=0) (id':=848) (by decide) (Huz _ _ _ _ ?_ ?_ ?_ ?_ ?_) (by (simp (disch:=omega) only [push_cast,seval,hO,hel,Aaz])<;>rfl) (by (simp (disch:=omega) only [push_cast,seval,hO,hel,Aaz])<;>rfl) ?_;(iterate 5 (exact sd));rintro _ _ ⟨x,hx,hx0,rfl,rfl⟩))|((with_reducible refine A9z (f:=81) (args:=[Operand.tmp 55,Operand.tmp 56]) [0,896] true ?_);simp (disch:=omega) only [push_cast,seval,hO,hel,Aaz];(refine E2z (id:=0) (id':=896) (by decide) (Huz _ _ _ _ ?_ ?_ ?_ ?_ ?_) (by (simp (disch:=omega) only [push_cast,seval,hO,hel,Aaz])<;>rfl) (by (simp (disch:=omega) only [push_cast,seval,hO,hel,Aaz])<;>rfl) ?_;(iterate 5 (exact sd));rintro _ _ ⟨x,hx,hx0,rfl,rfl⟩))|((with_reducible refine A9z (f:=81) (args:=[Operand.tmp 66,Operand.tmp 67]) [0,1072] true ?_);simp (disch:=omega) only [push_cast,seval,hO,hel,Aaz];(refine E2z (id:=0) (id':=1072) (by decide) (Huz _ _ _ _ ?_ ?_ ?_ ?_ ?_) (by (simp (disch:=omega) only [push_cast,seval,hO,hel,Aaz])<;>rfl) (by (simp (disch:=omega) only [push_cast,seval,hO,hel,Aaz])<;>rfl) ?_;(iterate 5 (exact sd));rintro _ _ ⟨x,hx,hx0,rfl,rfl⟩))|((with_reducible refine A9z (f:=81) (args:=[Operand.tmp 69,Operand.tmp 70]) [0,1120] true ?_);simp (disch:=omega) only [push_cast,seval,hO,hel,Aaz];(refine E2z (id:=0) (id':=1120) (by decide) (Huz _ _ _ _ ?_ ?_ ?_ ?_ ?_) (by (simp (disch:=omega) only [push_cast,seval,hO,hel,Aaz])<;>rfl) (by (simp (disch:=omega) only [push_cast,seval,hO,hel,Aaz])<;>rfl) ?_;(iterate 5 (exact sd));rintro _ _ ⟨x,hx,hx0,rfl,rfl⟩)))
 | (first|refine Ajz false ?_)
 | (first|(refine Aiz (L0z _ _ _ _ ?_ ?_ ?_) ?_;(iterate 3 (exact sd));rintro _ _ ⟨rfl,rfl⟩)))<;>(try simp (disch:=omega) only [push_cast,seval,hO,hel,Aaz])))
 all_goals first
  | ((refine Adz ⟨.inr rfl,[720],[],_,by decide,rfl,?_⟩;(try simp (disch:=omega) only [push_cast,seval,↓Ahz,↓Aez,↓List.map_cons,↓List.map_nil,hO,Aaz]));exact ⟨_,[_],_,.inl ⟨(by first|rfl|omega),_,rfl⟩,by omega,rfl,rfl⟩)
  | ((refine Adz ⟨.inr rfl,[928],[],_,by decide,rfl,?_⟩;(try simp (disch:=omega) only [push_cast,seval,↓Ahz,↓Aez,↓List.map_cons,↓List.map_nil,hO,Aaz]));exact ⟨_,[_,_,_],_,.inr (.inl ⟨(by first|rfl|omega),_,_,_,rfl⟩),by omega,rfl,rfl⟩)
  | ((refine Adz ⟨.inr rfl,[1152],[],_,by decide,rfl,?_⟩;(try simp (disch:=omega) only [push_cast,seval,↓Ahz,↓Aez,↓List.map_cons,↓List.map_nil,hO,Aaz]));exact ⟨_,[_,_,_,_],_,.inr (.inr (.inl ⟨(by first|rfl|omega),_,_,_,_,rfl⟩)),by omega,rfl,rfl⟩)
  | ((refine Adz ⟨.inr rfl,[1280],[],_,by decide,rfl,?_⟩;(try simp (disch:=omega) only [push_cast,seval,↓Ahz,↓Aez,↓List.map_cons,↓List.map_nil,hO,Aaz]));exact ⟨_,[_,_],_,.inr (.inr (.inr (.inr (.inl ⟨(by first|rfl|omega),_,_,rfl⟩)))),by omega,rfl,rfl⟩)
  | ((refine Adz ⟨.inr rfl,[1472],[],_,by decide,rfl,?_⟩;(try simp (disch:=omega) only [push_cast,seval,↓Ahz,↓Aez,↓List.map_cons,↓List.map_nil,hO,Aaz]));exact ⟨_,[_,_],_,.inr (.inr (.inr (.inr (.inr (.inl ⟨(by first|rfl|omega),_,_,rfl⟩))))),by omega,rfl,rfl⟩)
  | ((refine Adz ⟨.inr rfl,[592],[],_,by decide,rfl,?_⟩;(try simp (disch:=omega) only [push_cast,seval,↓Ahz,↓Aez,↓List.map_cons,↓List.map_nil,hO,Aaz]));exact ⟨_,[_],_,actK_rest hx (by omega),by omega,rfl,rfl⟩)
  | skip
theorem someAct_ok (bs:List Int)(p:Int)(cs:List Int)(es:List Ex)(m n:Nat)(hm:cs.length=m)(hn:es.length=n)(hbs:okB bs)(hp:0≤p∧p≤900000)(hv:vB cs es=true) :
  BCall Tryz.prog 82 [.ref 0 2 0,.agg [.own 1 m 1,.own 2 n 5]] [RD bs p,IL cs,EL false es] (fun r H'=>∃ k nums p',actK k nums∧(p≤p'∧p'≤p+10)∧r=.agg [.int .i64 k,.own 3 nums.length 1]∧H'=[RD bs p',IL cs,EL false es,IL nums]) :=
 Jkz bs p cs es m n hm hn hbs hp (by have:=Fuz hv;exact ⟨by omega,by omega,this.2.2⟩)

end Go.Proofs.YtfccepgibbdfaaaGreatDoor
namespace Go.Proofs.YtfccepgibbdfaaaGreatDoor
open VwM Vw Go
variable [SentA]
variable [PowA]

set_option maxHeartbeats 16000000 in
theorem goodB_ok (bs:List Int)(p:Int)(hbs:okB bs)(hp:0≤p∧p≤800000) :
  BCall Tryz.prog 79 [.ref 0 2 0] [RD bs p] (fun r H'=>∃ cs es c p',vB cs es=true∧(cs.length≤60∧es.length≤8∧exB 4 es)∧(p≤p'∧p'≤p+110)∧r=.agg [.own 1 cs.length 1,.own 2 es.length 5]∧H'=[RD bs p',IL cs,EL c es]):=by
 obtain ⟨hp1,hp2⟩:=hp
 refine Avz (pins:=[0]) (pin:=1) l79_eq rfl rfl rfl ?_
 (repeat' ((first
 | (first|refine Afz ?_|refine Abz ?_)
 | (first|refine Agz ?_)
 | (first|((with_reducible refine A9z (f:=81) (args:=[Operand.tmp 5,Operand.tmp 6]) [0,96] true ?_);simp (disch:=omega) only [push_cast,seval,Aaz];(refine E2z (id:=0) (id':=96) (by decide) (Huz _ _ _ _ ?_ ?_ ?_ ?_ ?_) (by (simp (disch:=omega) only [push_cast,seval,Aaz])<;>rfl) (by (simp (disch:=omega) only [push_cast,seval,Aaz])<;>rfl) ?_;(iterate 5 (exact sd));rintro _ _ ⟨x,hx,hx0,rfl,rfl⟩))|((with_reducible refine A9z (f:=81) (args:=[Operand.tmp 9,Operand.tmp 10]) [0,160] true ?_);simp (disch:=omega) only [push_cast,seval,Aaz];(refine E2z (id:=0) (id':=160) (by decide) (Huz _ _ _ _ ?_ ?_ ?_ ?_ ?_) (by (simp (disch:=omega) only [push_cast,seval,Aaz])<;>rfl) (by (simp (disch:=omega) only [push_cast,seval,Aaz])<;>rfl) ?_;(iterate 5 (exact sd));rintro _ _ ⟨x,hx,hx0,rfl,rfl⟩)))
 | (first|refine Ajz false ?_)
 | (first|(refine Aiz (sNewBuf_ok _) ?_;rintro _ _ ⟨rfl,rfl⟩)))<;>(try simp (disch:=omega) only [push_cast,seval,Aaz])))
 rename_i y hy hy0
 have hN:=nbN_le y
 have hv0:vB (List.replicate (nbN y) 0) []=true:=by
  rw [Ftz]
  exact ⟨Cnz.2 ⟨by simpa using hN,fun v hv=>by rw [(List.mem_replicate.1 hv).2];omega⟩,Nat.zero_le _,fun i e he=>by simp at he⟩
 have hx8:0≤x∧x≤8:=by
  simp only [Hlz,Jjz,List.mem_cons,List.not_mem_nil,or_false] at hx
  omega
 refine Duz (fun z:List Int×List Ex×Bool×Int×Int=>mkS [(0,.ref 0 2 0),(2,.ref 32 2 0),(3,.ref 48 2 0),(4,.int .i64 z.2.2.2.1)] [(0,RD bs z.2.2.2.2),(32,[.val (.slice none 0 0),.val (.slice none 0 0)]),(48,[.own 9000 z.1.length 1,.own 9001 z.2.1.length 5]),(9000,IL z.1),(9001,EL z.2.2.1 z.2.1)]) (fun z=>vB z.1 z.2.1=true∧(0≤z.2.2.2.1∧z.2.2.2.1≤8)∧p≤z.2.2.2.2∧z.2.2.2.2+10*z.2.2.2.1≤p+100) (fun z=>z.2.2.2.1.toNat) (List.replicate (nbN y) 0,[],true,x,p+1+1) ⟨hv0,hx8,by simp only;omega,by simp only;omega⟩ ?_ ?_
 ·refine SubW.mk2 128 9000 129 9001 (by omega) ?_
  simp only [List.map_cons,List.map_nil,AV.sw,swL,Luz,swp,↓reduceIte,Nat.reduceEqDiff]
  (refine Sub.of_lists ?_ ?_ ?_ ?_ ?_<;>simp [Vw.mkS,Vw.lk,Vw.hk,AV.inn,innL,Apz,Anz,Asz,-List.map_set,-List.getD_eq_getElem?_getD,EL])
 ·rintro ⟨cs,es,c,n,q⟩ ⟨hv,hn,hq1,hq2⟩
  simp only at hv hn hq1 hq2 ⊢
  have hel:=Auz c es
  by_cases hlt:n > 0
  ·(repeat' (first
 | (first|refine Afz ?_|refine Abz ?_)
 | ((first|refine Agz ?_|refine Acz ?_|refine Amz ?_);simp (disch:=omega) only [push_cast,seval,hlt,hel,Aaz])))
   refine awp_drawW (a:=l79r4a.take 4) (nth l79r4a 4) (b:=l79r4a.drop 5) (post:=l79r4b) [0,9000,9001] [48] rfl mixed (by decide) ?_
   simp (disch:=omega) only [push_cast,seval,List.take_succ_cons,List.take_zero,List.drop_succ_cons,List.drop_zero,nth]
   (repeat' ((first
 | (first|refine Afz ?_|refine Abz ?_)
 | (first|refine Agz ?_)
 | (first|((with_reducible refine F3z (f:=82) [0,9000,9001] true ?_);simp (disch:=omega) only [push_cast,seval,hlt,hel,Aaz];(refine qcallND (by decide) (someAct_ok _ _ _ _ _ _ ?_ ?_ ?_ ?_ ?_) (by (simp (disch:=omega) only [push_cast,seval,hlt,hel,Aaz])<;>rfl) (by decide) ⟨_,_,0,[0],_,.inl ⟨rfl,0,rfl⟩,⟨Int.le_refl _,by omega⟩,rfl,rfl⟩ ?_;(iterate 5 (exact sd));rintro _ _ ⟨kA,nums,pA,hkA,hpA,rfl,rfl⟩))|((with_reducible refine A9z (f:=26) [9000,9001,320] true ?_);simp (disch:=omega) only [push_cast,seval,hlt,hel,Aaz];(refine callND (by decide) (apply_ok _ _ _ _ _ _ _ ?_ ?_ ?_ ?_ ?_) (by (simp (disch:=omega) only [push_cast,seval,hlt,hel,Aaz])<;>rfl) ?_;(iterate 5 (exact sd));rintro _ _ (⟨sa,rfl,rfl⟩|⟨csA,esA,sa,hvA,rfl,rfl⟩)))))<;>(try simp (disch:=omega) only [push_cast,seval,hlt,hel,Aaz])))
   ·exact ⟨(cs,es,false,n-1,pA),⟨hv,by simp only;omega,by simp only;omega,by simp only;omega⟩,by simp only;omega,SubW.of (by (refine Sub.of_lists ?_ ?_ ?_ ?_ ?_<;>simp [Vw.mkS,Vw.lk,Vw.hk,AV.inn,innL,Apz,Anz,Asz,-List.map_set,-List.getD_eq_getElem?_getD,Aaz]))⟩
   ·refine ⟨(csA,esA,true,n-1,pA),⟨hvA,by simp only;omega,by simp only;omega,by simp only;omega⟩,by simp only;omega,?_⟩
    refine SubW.mk2 336 9000 337 9001 (by omega) ?_
    simp only [List.map_cons,List.map_nil,AV.sw,swL,Luz,Ipz,swp,↓reduceIte,Nat.reduceEqDiff]
    (refine Sub.of_lists ?_ ?_ ?_ ?_ ?_<;>simp [Vw.mkS,Vw.lk,Vw.hk,AV.inn,innL,Apz,Anz,Asz,-List.map_set,-List.getD_eq_getElem?_getD,Aaz])
  ·(repeat' (first
 | (first|refine Afz ?_|refine Abz ?_)
 | ((first|refine Agz ?_|refine Acz ?_|refine Azz ?_);simp (disch:=omega) only [push_cast,seval,hlt,hel,Aaz])
 | (refine Adz ⟨.inr rfl,[9000,9001],[],_,by decide,rfl,?_⟩;(try simp (disch:=omega) only [push_cast,seval,↓Ahz,↓Aez,↓List.map_cons,↓List.map_nil,hlt,hel,Aaz]))))
   all_goals exact ⟨_,_,_,_,hv,Fuz hv,by omega,rfl,rfl⟩

end Go.Proofs.YtfccepgibbdfaaaGreatDoor
namespace Go.Proofs.YtfccepgibbdfaaaGreatDoor
open VwM Vw Go
variable [SentA]
variable [PowA]

theorem zcX0:zcells [AV.int .i64 0,.int .i64 0,.val (.slice none 0 0),.val (.slice none 0 0),.bool false] 1=[AV.int .i64 0,.int .i64 0,.val (.slice none 0 0),.val (.slice none 0 0),.bool false]:=zcX _ _ _ _ _
theorem Mxz (es:List Ex)(a b:Int)(o:Bool):EL false (es++[(a,(b,[],[]),o)])=EL false es++[.int .i64 a,.int .i64 b,.rows false [] 0,.rows false [] 0,.bool o]:=by rw [H9z];rfl
abbrev sbP (cs:List Int)(es:List Ex):Prop:=cs.length≤61∧es.length≤9∧exB 4 es
theorem exB_nil1 {es:List Ex}{a b:Int}{o:Bool}(h:exB 4 es):exB 4 (es++[(a,(b,[],[]),o)]):=fun e he=>by
 rcases List.mem_append.1 he with h1|h1
 ·exact h e h1
 ·rw [List.mem_singleton] at h1;subst h1;exact ⟨Nat.zero_le _,Nat.zero_le _⟩


set_option maxHeartbeats 16000000 in
theorem someB_ok (bs:List Int)(p:Int)(hbs:okB bs)(hp:0≤p∧p≤700000) :
  BCall Tryz.prog 41 [.ref 0 2 0] [RD bs p] (fun r H'=>∃ cs es p',sbP cs es∧(p≤p'∧p'≤p+120)∧r=.agg [.own 1 cs.length 1,.own 2 es.length 5]∧H'=[RD bs p',IL cs,EL false es]):=by
 obtain ⟨hp1,hp2⟩:=hp
 refine Avz (pins:=[0]) (pin:=1) l41_eq rfl rfl rfl ?_
 have helc:=fun (c:Bool) (es:List Ex)=>Auz c es
 (repeat' ((first
 | (first|refine Afz ?_|refine Abz ?_)
 | (first|refine Agz ?_|refine Bbz (mid:=l41r6a) (post:=l41r6b) [0] mixed (by decide) ?_|refine Acz ?_|refine Amz ?_)
 | ((first|refine Alz (fun h=>?_) (fun h=>?_))<;>(try simp only [h])<;>(try simp only [bitvec_to_nat] at h)<;>(try simp only [h])<;>(first|(exfalso;omega)|(exfalso;simp_all;done)|skip))
 | (first|((with_reducible refine A9z (f:=79) [0] true ?_);simp (disch:=omega) only [push_cast,seval,Aaz,zcX0];(refine I1z (id:=0) (goodB_ok _ _ ?_ ?_) (by (simp (disch:=omega) only [push_cast,seval,Aaz,zcX0])<;>rfl) ?_;(iterate 2 (exact sd));rintro _ _ ⟨csG,esG,cG,pG,hvG,⟨hb1,hb2,hb3⟩,hpG,rfl,rfl⟩))|((with_reducible refine A9z (f:=80) [0] true ?_);simp (disch:=omega) only [push_cast,seval,Aaz,zcX0];(refine I1z (id:=0) (Jwz _ _ _ ?_ ?_) (by (simp (disch:=omega) only [push_cast,seval,Aaz,zcX0])<;>rfl) ?_;(iterate 2 (exact sd));rintro _ _ ⟨x,hx0,hx1,rfl,rfl⟩))|((with_reducible refine F3z (f:=81) [0] true ?_);simp (disch:=omega) only [push_cast,seval,Aaz,zcX0];(refine qcall1D (id:=0) (oneR_ok _ _ _ _ ?_ ?_ ?_ ?_ ?_) (by (simp (disch:=omega) only [push_cast,seval,Aaz,zcX0])<;>rfl) (by decide) (by simp only [Hlz,Jjz];exact ⟨_,_,_,List.mem_cons_self,by omega,rfl,rfl⟩) ?_;(iterate 5 (exact sd));rintro _ _ ⟨x,hx,hx0,rfl,rfl⟩))))<;>(try simp (disch:=omega) only [push_cast,seval,Aaz,zcX0])))
 all_goals refine awp_subW (SubW.toF [81] SubW.rfl') ?_
 all_goals simp only [toFL,List.map_cons,List.map_nil,List.map_append,List.contains_cons,List.contains_nil,Nat.reduceBEq,BEq.rfl,Bool.or_false,Bool.false_eq_true,↓reduceIte,toF_EL,toF]
 all_goals first
  | ((refine Adz ⟨.inr rfl,[80,81],[],_,by decide,rfl,?_⟩;(try simp (disch:=omega) only [push_cast,seval,↓Ahz,↓Aez,↓List.map_cons,↓List.map_nil,Aaz]));exact ⟨csG,esG,_,⟨by omega,by omega,hb3⟩,by omega,rfl,rfl⟩)
  | ((refine Adz ⟨.inr rfl,[80,81],[],_,by decide,rfl,?_⟩;(try simp (disch:=omega) only [push_cast,seval,↓Ahz,↓Aez,↓List.map_cons,↓List.map_nil,Aaz,List.map_append,List.length_append,List.length_map]));refine ⟨csG++[256],esG,pG+1,⟨by rw [List.length_append,List.length_singleton];omega,by omega,hb3⟩,by omega,by rw [List.length_append,List.length_singleton],?_⟩;unfold IL;rw [List.map_append];rfl)
  | ((refine Adz ⟨.inr rfl,[80,81],[],_,by decide,rfl,?_⟩;(try simp (disch:=omega) only [push_cast,seval,↓Ahz,↓Aez,↓List.map_cons,↓List.map_nil,Aaz,List.map_append,List.length_append,List.length_map]));refine ⟨csG,esG++[(x,(0,[],[]),true)],pG+1+1,⟨by omega,by rw [List.length_append,List.length_singleton];omega,exB_nil1 hb3⟩,by omega,by rw [List.length_append,List.length_singleton],?_⟩;first|(rw [Mxz];done)|(rw [Mxz];rfl))
  | ((refine Adz ⟨.inr rfl,[80,81],[],_,by decide,rfl,?_⟩;(try simp (disch:=omega) only [push_cast,seval,↓Ahz,↓Aez,↓List.map_cons,↓List.map_nil,Aaz,List.map_append,List.length_append,List.length_map]));refine ⟨csG,esG++[(-1,(59,[],[]),true)],pG+1,⟨by omega,by rw [List.length_append,List.length_singleton];omega,exB_nil1 hb3⟩,by omega,by rw [List.length_append,List.length_singleton],?_⟩;first|(rw [Mxz];done)|(rw [Mxz];rfl))

end Go.Proofs.YtfccepgibbdfaaaGreatDoor
namespace Go.Proofs.YtfccepgibbdfaaaGreatDoor
open VwM Vw Go
variable [SentA]
variable [PowA]

abbrev sbQ (cs:List Int)(es:List Ex):Prop:=(cs.length≤1099511627776∧es.length≤1099511627776∧exB 1099511627776 es)∧(cs.length≤1048576∧es.length≤1048576∧exB 1048576 es)∧cs.length≤61∧es.length≤9∧exB 4 es
theorem sbQ_of {cs:List Int}{es:List Ex}(h:sbP cs es):sbQ cs es:=⟨⟨by have:=h.1;omega,by have:=h.2.1;omega,fun e he=>by have:=h.2.2 e he;omega⟩,⟨by have:=h.1;omega,by have:=h.2.1;omega,fun e he=>by have:=h.2.2 e he;omega⟩,h⟩


end Go.Proofs.YtfccepgibbdfaaaGreatDoor
