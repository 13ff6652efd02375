/- Texts of this verifier. -/
import Derived.Test.YtapccmfnmiopoaaGreatCB10
import Derived.Test.YtapccmfnmiopoaaGreatCM1
import Derived.Test.YtapccmfnmiopoaaGreatCW3
set_option maxHeartbeats 4000000
set_option linter.unusedSimpArgs false
set_option linter.unusedVariables false
set_option maxRecDepth 4000
namespace Go.Proofs.YtapccmfnmiopoaaGreat
open VwM Vw Go

theorem turnK_all {sh order:List Int}(hg:good4 sh)(h:isOrd order sh.length){j:Nat}(hj:(j:Int)<pr sh):∃ k:Nat,(k:Int)<pr sh∧turnK sh order k=j:=by
 obtain ⟨N,hN⟩:∃ N:Nat,pr sh=N:=⟨(pr sh).toNat,by omega⟩
 have hnd:((List.range N).map (turnK sh order)).Nodup:=by
  rw [List.nodup_iff_pairwise_ne,List.pairwise_map]
  refine (List.nodup_range (n:=N)).imp_of_mem fun {a c} ha hc hne e=>hne ?_
  exact turnK_inj hg h (by have:=List.mem_range.1 ha;omega) (by have:=List.mem_range.1 hc;omega) e
 have hm:∀ y∈(List.range N).map (turnK sh order),y∈nums 0 1 N:=fun y hy=>by
  obtain ⟨k,hk,rfl⟩:=List.mem_map.1 hy
  have:=turnK_lt hg h (k:=k) (by have:=List.mem_range.1 hk;omega)
  exact Cbz.2 (by omega)
 have hx:(j:Int)∈nums 0 1 N:=Cbz.2 (by omega)
 obtain ⟨k,hk,e⟩:=List.mem_map.1 ((Juz hnd hm (by simp)).1 (j:Int) hx)
 exact ⟨k,by have:=List.mem_range.1 hk;omega,e⟩
/-- The values that a turned view loads are those of the turned tensor. -/
theorem takes_turn {mem:List Int}{b:Int}{sh st order:List Int}(hs:seeB mem b sh st=true)(ho:isOrd order sh.length):turnT (sh,takesL mem (offs b sh st)) order=(permL sh order,takesL mem (offs b (permL sh order) (permL st order))):=by
 have hv:=(C8z.1 hs).2.1
 have hsh:=(Czz.1 hv).1
 have hg:=(A5z hsh).1
 have h0:=(A5z hsh).2.1
 have hP:=Fvz (Caz (xs:=sh) ho)
 refine Prod.ext rfl ?_
 show takesL (takesL mem (offs b sh st)) (offs 0 (permL sh order) (permL (rowS sh) order))=takesL mem (offs b (permL sh order) (permL st order))
 have l1:=Bjz 0 (permL sh order) (permL (rowS sh) order)
 have l2:=Bjz b (permL sh order) (permL st order)
 have l3:=Bjz b sh st
 refine B2z (by rw [takesL_length,takesL_length];omega) fun j hj=>?_
 rw [takesL_length] at hj
 have hj':(j:Int)<pr sh:=by omega
 obtain ⟨k,hk,e⟩:=turnK_all hg ho hj'
 have hr:cellK 0 sh (rowS sh) (k:Int)=(k:Int):=by
  have:=Coz (b:=0) (sh:=sh) (st:=rowS sh) (k:=k) (by omega)
  rw [offs_row hsh,B6z 0 1 _ k (by omega)] at this
  omega
 have g1:(takesL (takesL mem (offs b sh st)) (offs 0 (permL sh order) (permL (rowS sh) order))).getD j 0=(takesL mem (offs b sh st)).getD ((offs 0 (permL sh order) (permL (rowS sh) order)).getD j 0).toNat 0:=C7z (by omega)
 have g2:(takesL mem (offs b (permL sh order) (permL st order))).getD j 0=mem.getD ((offs b (permL sh order) (permL st order)).getD j 0).toNat 0:=C7z (by omega)
 have g3:(offs 0 (permL sh order) (permL (rowS sh) order)).getD j 0=cellK 0 (permL sh order) (permL (rowS sh) order) j:=Coz (by omega)
 have g4:(offs b (permL sh order) (permL st order)).getD j 0=cellK b (permL sh order) (permL st order) j:=Coz (by omega)
 have g5:(takesL mem (offs b sh st)).getD k 0=mem.getD ((offs b sh st).getD k 0).toNat 0:=C7z (by omega)
 have g6:(offs b sh st).getD k 0=cellK b sh st k:=Coz (by omega)
 rw [g1,g2,g3,g4,← e,G1z hg ho hk,G1z hg ho hk,hr,Int.toNat_natCast,g5,g6]
theorem Gbz (l:List Int):tenX true l=l:=rfl
theorem ord_B {order:List Int}{n:Nat}(h:isOrd order n):ordB order n=true:=by
 unfold ordB
 simp only [Bool.and_eq_true,decide_eq_true_eq,Boz]
 exact ⟨⟨h.1,h.2.1⟩,h.2.2⟩
theorem pm_ord {b:Int}{sh st order:List Int}(hv:vV b sh st=true)(ho:isOrd order sh.length):pmOk b sh st order=true:=by
 have h2:=ord_B ho
 unfold ordB at h2
 unfold pmOk
 rw [hv,vV_perm hv ho,h2];rfl


theorem drawTOB_ok (bs:List Int)(n:Nat)(hn:bs.length=n)(hb:n≤1099511627776∧∀ x∈bs,0≤x∧x≤255):BCall Tryz.prog 4 [.rows false (UL bs) n] [] (fun r H'=>∃ mem b sh st,(1≤mem.length∧mem.length≤60∧good4 sh∧sh.length≤4∧st.length≤5)∧r=.tup [.own 0 mem.length 1,.agg [.int .i64 b,.own 1 sh.length 1,.own 2 st.length 1]]∧H'=[IL mem,IL sh,IL st]):=by
 subst hn
 refine Awz (pins:=[]) (pin:=0) l4_eq rfl rfl rfl ?_
 (repeat' ((first
 | (first|refine Afz ?_|refine Aaz ?_)
 | (first|refine Agz ?_)
 | (first|((with_reducible refine Anz (f:=15) true ?_);simp (disch:=omega) only [push_cast,seval];(refine Akz (newReader_ok _ _ ?_ ?_) ?_;(iterate 2 (exact sd));rintro _ _ ⟨bs0,hbs0,rfl,rfl⟩))|((with_reducible refine A6z (f:=14) [80] true ?_);simp (disch:=omega) only [push_cast,seval];(refine Dqz (id:=80) (memView_ok _ _ ?_ ?_) (by (simp (disch:=omega) only [push_cast,seval])<;>rfl) ?_;(iterate 2 (exact sd));rintro _ _ ⟨mem,b,sh,st,q,⟨hm1,hm2,hl1,hl9,hl2⟩,hq,rfl,rfl⟩)))
 | (refine Acz ⟨.inr rfl,[96,97,98],[],_,by decide,rfl,?_⟩;(try simp (disch:=omega) only [push_cast,seval,↓Adz,↓Abz,↓List.map_cons,↓List.map_nil])))<;>(try simp (disch:=omega) only [push_cast,seval])))
 exact ⟨_,_,_,_,⟨by assumption,by assumption,by assumption,by assumption,by assumption⟩,rfl,rfl⟩
theorem drawTO_ok (bs:List Int)(n:Nat)(hn:bs.length=n)(hb:n≤1099511627776∧∀ x∈bs,0≤x∧x≤255):PCall Tryz.prog 4 [.rows false (UL bs) n] (fun r=>∃ mem b sh st,(1≤mem.length∧mem.length≤60∧good4 sh∧sh.length≤4∧st.length≤5)∧r=.tup [.rows true (IL mem) mem.length,.agg [.int .i64 b,.rows true (IL sh) sh.length,.rows true (IL st) st.length]]):=by
 refine (BCall.plain (drawTOB_ok bs n hn hb)).mono ?_
 rintro r ⟨r0,H',⟨mem,b,sh,st,h,rfl,rfl⟩,rfl⟩
 refine ⟨mem,b,sh,st,h,?_⟩
 simp [AV.ren,nthH,B3z]


theorem sTOP_ok (mem:List Int)(b:Int)(sh st:List Int)(q n m:Nat)(hq:mem.length=q)(hn:sh.length=n)(hm:st.length=m)(hb:q≤1099511627776∧n≤1099511627776∧m≤1099511627776):PCall Tryz.prog 6 [.rows false (IL mem) q,.agg [.int .i64 b,.rows false (IL sh) n,.rows false (IL st) m]] (fun r=>r=.tup [.agg [.rows true (IL (tenX (seeB mem b sh st) sh)) (tenX (seeB mem b sh st) sh).length,.rows true (IL (tenX (seeB mem b sh st) (takesL mem (offs b sh st)))) (tenX (seeB mem b sh st) (takesL mem (offs b sh st))).length],.bool (seeB mem b sh st)]):=by
 refine (BCall.plain (sTO_ok mem b sh st q n m hq hn hm hb)).mono ?_
 rintro r ⟨r0,H',⟨rfl,rfl⟩,rfl⟩
 simp [AV.ren,nthH,B3z]


theorem iTOP_ok (mem:List Int)(b:Int)(sh st:List Int)(q n m:Nat)(hq:mem.length=q)(hn:sh.length=n)(hm:st.length=m)(hb:q≤1099511627776∧n≤1099511627776∧m≤1099511627776):PCall Tryz.prog 5 [.rows false (IL mem) q,.agg [.int .i64 b,.rows false (IL sh) n,.rows false (IL st) m]] (fun r=>r=.tup [.agg [.rows true (IL (tenX (seeB mem b sh st) sh)) (tenX (seeB mem b sh st) sh).length,.rows true (IL (tenX (seeB mem b sh st) (takesL mem (offs b sh st)))) (tenX (seeB mem b sh st) (takesL mem (offs b sh st))).length],.bool (seeB mem b sh st)]):=by
 refine (BCall.plain (iTO_ok mem b sh st q n m hq hn hm hb)).mono ?_
 rintro r ⟨r0,H',⟨rfl,rfl⟩,rfl⟩
 simp [AV.ren,nthH,B3z]


theorem upToP_ok (n:Int)(hn:n≤1000000):PCall Tryz.prog 9 [.int .i64 n] (fun r=>r=.rows true (IL (nums 0 1 n.toNat)) (nums 0 1 n.toNat).length):=by
 refine (BCall.plain (upToL_ok n hn)).mono ?_
 rintro r ⟨r0,H',⟨rfl,rfl⟩,rfl⟩
 simp [AV.ren,nthH,B3z]


theorem backP_ok (xs:List Int)(n:Nat)(hn:xs.length=n)(hb:n≤1099511627776):PCall Tryz.prog 8 [.rows false (IL xs) n] (fun r=>r=.rows true (IL xs.reverse) xs.reverse.length):=by
 refine (BCall.plain (back_ok xs n hn hb)).mono ?_
 rintro r ⟨r0,H',⟨rfl,rfl⟩,rfl⟩
 simp [AV.ren,nthH,B3z]


theorem iPDP_ok (b:Int)(sh st order:List Int)(n m p:Nat)(hn:sh.length=n)(hm:st.length=m)(hp:order.length=p)(hb:pmOk b sh st order=true∧(sh.length≤1099511627776∧st.length≤1099511627776)∧order.length≤1099511627776) :
  PCall Tryz.prog 10 [.agg [.int .i64 b,.rows false (IL sh) n,.rows false (IL st) m],.rows false (IL order) p] (fun r=>r=.tup [.agg [.int .i64 b,.rows true (IL (permL sh order)) (permL sh order).length,.rows true (IL (permL st order)) (permL st order).length],.bool true]):=by
 subst hn hm hp
 refine (BCall.plain (Imz b sh st order _ _ _ rfl rfl rfl hb.2)).mono ?_
 rintro r ⟨r0,H',⟨rfl,rfl⟩,rfl⟩
 rw [hb.1]
 simp [AV.ren,nthH,B3z,MVL_true,MVB_true]


theorem iLVP_ok (mem:List Int)(b:Int)(sh st:List Int)(q n m:Nat)(hq:mem.length=q)(hn:sh.length=n)(hm:st.length=m)(hb:seeB mem b sh st=true∧mem.length≤1099511627776∧sh.length≤1099511627776∧st.length≤1099511627776):PCall Tryz.prog 12 [.rows false (IL mem) q,.agg [.int .i64 b,.rows false (IL sh) n,.rows false (IL st) m]] (fun r=>r=.rows true (IL (takesL mem (offs b sh st))) (takesL mem (offs b sh st)).length):=by
 subst hq hn hm
 refine (BCall.plain (iLoad_ok mem b sh st _ _ _ rfl rfl rfl hb.2)).mono ?_
 rintro r ⟨r0,H',⟨rfl,rfl⟩,rfl⟩
 rw [hb.1]
 simp [AV.ren,nthH,B3z,MVL_true]


theorem iTTP_ok (a1 a2 order:List Int)(n1 n2 m:Nat)(h1:a1.length=n1)(h2:a2.length=n2)(hm:order.length=m)(hb:(n1≤1099511627776∧n2≤1099511627776)∧m≤1099511627776) :
  PCall Tryz.prog 13 [.agg [.rows false (IL a1) n1,.rows false (IL a2) n2],.rows false (IL order) m] (fun r=>r=.agg [.rows true (IL (ttT (a1,a2) order).1) (ttT (a1,a2) order).1.length,.rows true (IL (ttT (a1,a2) order).2) (ttT (a1,a2) order).2.length]):=by
 refine (BCall.plain (iTT_ok a1 a2 order n1 n2 m h1 h2 hm hb)).mono ?_
 rintro r ⟨r0,H',⟨rfl,rfl⟩,rfl⟩
 simp [AV.ren,nthH,B3z]


theorem Kwz (s t:List Int)(n m n' m':Nat)(h:(s.length=n∧t.length=m)∧s.length=n'∧t.length=m')(hb:s.length≤1099511627776∧t.length≤1099511627776):PCall Tryz.prog 7 [.agg [.rows false (IL s) n,.rows false (IL t) m],.agg [.rows false (IL s) n',.rows false (IL t) m']] (fun r=>r=.bool true):=by
 obtain ⟨⟨rfl,rfl⟩,h1,h2⟩:=h
 subst h1 h2
 refine Axz l7_eq rfl ?_
 (repeat' ((first
 | (first|refine Afz ?_|refine Aaz ?_)
 | (first|refine Agz ?_)
 | (first|refine Anz false ?_)
 | (first|(refine Akz (Apz (Eqz _ _ _ _ ?_ ?_ ?_)) ?_;(iterate 3 (exact sd));rintro _ _ ⟨rfl,rfl⟩))
 | (refine Acz ⟨.inr rfl,_,rfl,?_⟩))<;>(try simp (disch:=omega) only [push_cast,seval,decide_true])))
 all_goals (try simp)


set_option maxHeartbeats 64000000 in
theorem lTOf_ok (bs:List Int)(hn:bs.length≤9223372036854775807)(hb:∀ x∈bs,0≤x∧x≤255):PCall Tryz.prog 3 [.rows false (UL bs) bs.length] (fun r=>r=.bool true):=by
 refine Axz l3_eq rfl ?_
 by_cases h:bs.length≤1048576
 ·have q:bs.length≤1099511627776∧∀ x∈bs,0≤x∧x≤255:=⟨by omega,hb⟩
  (repeat' ((first
 | (first|refine Afz ?_|refine Aaz ?_)
 | (first|refine Agz ?_|refine Aez ?_|refine Aoz ?_)
 | ((first|refine Aiz (fun h=>?_) (fun h=>?_))<;>(try simp only [h])<;>(try simp only [bitvec_to_nat] at h)<;>(try simp only [h])<;>(first|(exfalso;omega)|(exfalso;simp_all;done)|skip))
 | (first|((with_reducible refine Anz (f:=4) true ?_);simp (disch:=omega) only [push_cast,seval,bne_self_eq_false,decide_true];(refine Akz (Apz (drawTO_ok _ _ ?_ ?_)) ?_;(iterate 2 (exact sd));rintro _ _ ⟨⟨mem,b,sh,st,⟨hm1,hm2,hl1,hl9,hl2⟩,rfl⟩,rfl⟩)))
 | (first|refine Anz false ?_)
 | (first|(refine Akz (Apz (iTOP_ok _ _ _ _ _ _ _ ?_ ?_ ?_ ?_)) ?_;(iterate 4 (exact sd));rintro _ _ ⟨rfl,rfl⟩)|(refine Akz (Apz (sTOP_ok _ _ _ _ _ _ _ ?_ ?_ ?_ ?_)) ?_;(iterate 4 (exact sd));rintro _ _ ⟨rfl,rfl⟩)))<;>(try simp (disch:=omega) only [push_cast,seval,bne_self_eq_false,decide_true])))
  cases hs:seeB mem b sh st with
  | false =>
   have z1:(tenX false sh).length=0:=rfl
   have z2:(tenX false (takesL mem (offs b sh st))).length=0:=rfl
   generalize tenX false sh=X1 at *
   generalize tenX false (takesL mem (offs b sh st))=X2 at *
   have q3:X1.length≤1099511627776∧X2.length≤1099511627776:=by omega
   (repeat' ((first
 | (first|refine Afz ?_|refine Aaz ?_)
 | (first|refine Agz ?_|refine Aez ?_)
 | (first|refine Anz false ?_)
 | (first|(refine Akz (Apz (Kwz _ _ _ _ _ _ ?_ ?_)) ?_;(iterate 2 (exact sd));rintro _ _ ⟨rfl,rfl⟩)))<;>(try simp (disch:=omega) only [push_cast,seval,bne_self_eq_false,decide_true])))
   all_goals (first|((refine Acz ⟨.inr rfl,_,rfl,?_⟩;try simp (disch:=omega) only [push_cast,seval]))|skip)
   all_goals (try rfl)
  | true =>
   have q2:mem.length≤1099511627776∧sh.length≤1099511627776∧st.length≤1099511627776:=by omega
   have hv:=(C8z.1 hs).2.1
   have ho:=isOrd_rev sh.length
   have hOl:(nums 0 1 sh.length).reverse.length=sh.length:=by simp
   have hOl2:(nums 0 1 sh.length).length=sh.length:=by simp
   have hpm:=pm_ord hv ho
   have hs2:=seeB_perm hs ho
   have htk:=takes_turn hs ho
   have ha:=Bjz b sh st
   have hf:=Ggz hs
   have htl:=takesL_length mem (offs b sh st)
   have hvT:vT (sh,takesL mem (offs b sh st))=true:=Dtz.2 ⟨(Czz.1 hv).1,by show ((takesL mem (offs b sh st)).length:Int)=pr sh;omega,fun x hx=>by
    have:=takes_bound (L:=offs b sh st) (F9z.1 (C8z.1 hs).1).2 x hx
    omega⟩
   have htt:=ttT_yes hvT (ord_B ho)
   rw [htk] at htt
   have e1:(ttT (sh,takesL mem (offs b sh st)) (nums 0 1 sh.length).reverse).1=permL sh (nums 0 1 sh.length).reverse:=by rw [htt]
   have e2:(ttT (sh,takesL mem (offs b sh st)) (nums 0 1 sh.length).reverse).2=takesL mem (offs b (permL sh (nums 0 1 sh.length).reverse) (permL st (nums 0 1 sh.length).reverse)):=by rw [htt]
   have p1:=A3z sh (nums 0 1 sh.length).reverse
   have p2:=A3z st (nums 0 1 sh.length).reverse
   have ht1:=takesL_length mem (offs b (permL sh (nums 0 1 sh.length).reverse) (permL st (nums 0 1 sh.length).reverse))
   have hf2:=Ggz hs2
   have ha2:=Bjz b (permL sh (nums 0 1 sh.length).reverse) (permL st (nums 0 1 sh.length).reverse)
   simp only [Gbz]
   generalize hU:nums 0 1 sh.length=U at *
   generalize hO:U.reverse=O at *
   generalize hP:permL sh O=P at *
   generalize hS:permL st O=S at *
   generalize hT0:takesL mem (offs b sh st)=T0 at *
   generalize hT1:takesL mem (offs b P S)=T1 at *
   have q3:sh.length≤1099511627776∧T0.length≤1099511627776:=by omega
   have q4:pmOk b sh st O=true∧(sh.length≤1099511627776∧st.length≤1099511627776)∧O.length≤1099511627776:=⟨hpm,by omega,by omega⟩
   have q5:mem.length≤1099511627776∧P.length≤1099511627776∧S.length≤1099511627776:=by omega
   have q6:seeB mem b sh st=true∧mem.length≤1099511627776∧sh.length≤1099511627776∧st.length≤1099511627776:=⟨hs,q2⟩
   have q7:(sh.length≤1099511627776∧T0.length≤1099511627776)∧O.length≤1099511627776:=by omega
   have q8:P.length≤1099511627776∧T1.length≤1099511627776:=by omega
   clear htt hvT htk hpm hf hf2
   (repeat' ((first
 | (first|refine Afz ?_|refine Aaz ?_)
 | (first|refine Agz ?_|refine Auz (mid:=l3r11a) (post:=l3r11b) Bfz (by decide) ?_|refine Aez ?_|refine Aoz ?_)
 | (first|refine Anz false ?_|refine A7z false ?_)
 | (first|((first|refine Akz (Apz (iTOP_ok _ _ _ _ _ _ _ ?_ ?_ ?_ ?_)) ?_|refine Asz (Apz (iTOP_ok _ _ _ _ _ _ _ ?_ ?_ ?_ ?_)) ⟨_,_,rfl,rfl⟩ ?_);(iterate 4 (exact sd));rintro _ _ ⟨rfl,rfl⟩)|((first|refine Akz (Apz (Kwz _ _ _ _ _ _ ?_ ?_)) ?_|refine Asz (Apz (Kwz _ _ _ _ _ _ ?_ ?_)) ⟨_,_,rfl,rfl⟩ ?_);(iterate 2 (exact sd));rintro _ _ ⟨rfl,rfl⟩)|((first|refine Akz (Apz (upToP_ok _ ?_)) ?_|refine Asz (Apz (upToP_ok _ ?_)) ⟨_,_,rfl,rfl⟩ ?_);(exact sd);rintro _ _ ⟨rfl,rfl⟩)|((first|refine Akz (Apz (backP_ok _ _ ?_ ?_)) ?_|refine Asz (Apz (backP_ok _ _ ?_ ?_)) ⟨_,_,rfl,rfl⟩ ?_);(iterate 2 (exact sd));rintro _ _ ⟨rfl,rfl⟩)|((first|refine Akz (Apz (iPDP_ok _ _ _ _ _ _ _ ?_ ?_ ?_ ?_)) ?_|refine Asz (Apz (iPDP_ok _ _ _ _ _ _ _ ?_ ?_ ?_ ?_)) ⟨_,_,rfl,rfl⟩ ?_);(iterate 4 (exact sd));rintro _ _ ⟨rfl,rfl⟩)|((first|refine Akz (Apz (iLVP_ok _ _ _ _ _ _ _ ?_ ?_ ?_ ?_)) ?_|refine Asz (Apz (iLVP_ok _ _ _ _ _ _ _ ?_ ?_ ?_ ?_)) ⟨_,_,rfl,rfl⟩ ?_);(iterate 4 (exact sd));rintro _ _ ⟨rfl,rfl⟩)|((first|refine Akz (Apz (Eqz _ _ _ _ ?_ ?_ ?_)) ?_|refine Asz (Apz (Eqz _ _ _ _ ?_ ?_ ?_)) ⟨_,_,rfl,rfl⟩ ?_);(iterate 3 (exact sd));rintro _ _ ⟨rfl,rfl⟩)|((first|refine Akz (Apz (iTTP_ok _ _ _ _ _ _ ?_ ?_ ?_ ?_)) ?_|refine Asz (Apz (iTTP_ok _ _ _ _ _ _ ?_ ?_ ?_ ?_)) ⟨_,_,rfl,rfl⟩ ?_);(iterate 4 (exact sd));rintro _ _ ⟨rfl,rfl⟩)))<;>(try simp (disch:=omega) only [push_cast,seval,bne_self_eq_false,decide_true,Gbz,hs,hs2,hU,hO,hP,hS,hT0,hT1,e1,e2,Int.toNat_natCast])))
   all_goals (first|((refine Acz ⟨.inr rfl,_,rfl,?_⟩;try simp (disch:=omega) only [push_cast,seval]))|skip)
   all_goals (try rfl)
 ·(repeat' (first
 | (first|refine Afz ?_|refine Aaz ?_)
 | ((first|refine Agz ?_|refine Aez ?_);simp (disch:=omega) only [push_cast,seval])
 | ((first|refine Aiz (fun h=>?_) (fun h=>?_))<;>(try simp only [h])<;>(try simp only [bitvec_to_nat] at h)<;>(try simp only [h])<;>(first|(exfalso;omega)|(exfalso;simp_all;done)|(simp (disch:=omega) only [push_cast,seval])|skip))
 | (refine Acz ⟨.inr rfl,_,rfl,?_⟩;(try simp (disch:=omega) only [push_cast,seval]))))

end Go.Proofs.YtapccmfnmiopoaaGreat
