import Derived.Test.YtbplegbgofnolaaCKq1
import Derived.Test.YtbplegbgofnolaaCM1
import Derived.Test.YtbplegbgofnolaaCW3
set_option linter.unusedSimpArgs false
set_option linter.unusedVariables false
set_option maxRecDepth 4000
set_option maxHeartbeats 4000000
namespace Go.Proofs.Ytbplegbgofnolaa
open VwM Vw Go

theorem Hiz (xs:List Int) (n:Nat) (hn:xs.length=n) (hb:n ≤ 1099511627776):BCall Try.prog 113 [.rows false (IL xs) n] [] (fun r H'=>r=.clo (.func 118) [] [.ref 0 1 0] ∧ H'=[[.rows false (IL xs) n]]):=by
  subst hn
  refine A3z (pins:=[]) (pin:=0) l113_eq rfl rfl rfl ?_
  (repeat' (first
 | (first|refine Anz ?_|refine Agz ?_)
 | ((first|refine Aoz ?_|refine Afz ?_|refine Ahz ?_|refine Aiz ?_);simp (disch:=omega) only [push_cast,seval,l113r0,l113r1])
 | ((first|refine Acz ?_ ?_|refine Aez ?_ ?_|refine Adz ?_ ?_)<;>intro h<;>(try simp only [h])<;>(try simp only [bitvec_to_nat] at h)<;>(try simp only [h])<;>(first|(exfalso;omega)|(exfalso;simp_all;done)|(simp (disch:=omega) only [push_cast,seval])|skip))
 | (refine Akz ⟨.inr rfl,[16],[],_,by decide,rfl,?_⟩;(try simp (disch:=omega) only [push_cast,seval,↓Alz,↓Ajz,↓List.map_cons,↓List.map_nil]))))
  all_goals exact ⟨rfl,rfl⟩


set_option maxHeartbeats 16000000 in
theorem waysOf_ok (e w L:List Int) (m:Nat) (hm:L.length=m) (he:e.length=5 ∧ w.length=5) (hb:m ≤ 6 ∧ (∀ x ∈ L,0 ≤ x ∧ x ≤ 4) ∧ ∀ x ∈ L,0 ≤ gE e x ∧ gE e x ≤ 60):BCall Try.prog 98 [.agg (IL e),.rows false (IL L) m,.agg (IL w)] [] (fun r H'=>r=.own 0 (pr (L.map (gE e))).toNat 5 ∧ H'=[IL (waysF e L w (pr (L.map (gE e))).toNat)]):=by
  subst hm
  obtain ⟨h5,hw5⟩:=he
  obtain ⟨hb0,hb1,hb2⟩:=hb
  have hg9:good9 (L.map (gE e)):=⟨fun x hx=>by obtain ⟨y,hy,rfl⟩:=List.mem_map.1 hx;exact hb2 y hy,by simpa using hb0⟩
  have hp9:=Csz hg9
  obtain ⟨n,hn⟩:∃ n:Nat,pr (L.map (gE e))=n:=⟨(pr (L.map (gE e))).toNat,by omega⟩
  rw [hn,Int.toNat_natCast]
  refine A3z (pins:=[]) (pin:=0) l98_eq rfl rfl rfl ?_
  have q1:e.length=5 ∧ L.length ≤ 1099511627776 ∧ ∀ x ∈ L,0 ≤ x ∧ x ≤ 4:=⟨h5,by omega,hb1⟩
  (repeat' (first
 | (first|refine Anz ?_|refine Agz ?_)
 | ((first|refine Aoz ?_|refine Asz (mid:=l98r9a) (post:=l98r9b) Awz (by decide) ?_|refine Asz (mid:=l98r10a) (post:=l98r10b) Awz (by decide) ?_|refine Afz ?_|refine Ahz ?_|refine Aiz ?_);simp (disch:=omega) only [push_cast,seval,l98r0,l98r1,l98r2,l98r3,l98r4,l98r5,l98r6,l98r7,l98r8,l98r9a,l98r9b,l98r9,l98r10a,l98r10b,l98r10,l98r11,l98r12,h5,hw5,hn,Enz,Auz,Btz])
 | ((first|refine Acz ?_ ?_|refine Aez ?_ ?_|refine Adz ?_ ?_)<;>intro h<;>(try simp only [h])<;>(try simp only [bitvec_to_nat] at h)<;>(try simp only [h])<;>(first|(exfalso;omega)|(exfalso;simp_all;done)|(simp (disch:=omega) only [push_cast,seval,h5,hw5,hn,Enz,Auz,Btz])|skip))
 | ((first|((with_reducible refine Aqz (f:=113) true ?_);simp (disch:=omega) only [push_cast,seval,h5,hw5,hn,Enz,Auz,Btz];(refine call0D (Hiz _ _ ?_ ?_) ?_;(iterate 2 (exact sd));rintro _ _ ⟨rfl,rfl⟩)))<;>(try simp (disch:=omega) only [push_cast,seval,h5,hw5,hn,Enz,Auz,Btz]))
 | ((first|refine Aqz false ?_|refine qcallD_of false ?_);simp (disch:=omega) only [push_cast,seval,h5,hw5,hn,Enz,Auz,Btz])
 | ((first|((first|refine call0D (tblOf_ok _ _ _ ?_ ?_) ?_|refine qcall0D (tblOf_ok _ _ _ ?_ ?_) ⟨_,_,rfl,rfl⟩ ?_);(iterate 2 (exact sd));rintro _ _ ⟨rfl,rfl⟩)|((first|refine call0D (BCall.ofP (product9_ok _ _ ?_ ?_)) ?_|refine qcall0D (BCall.ofP (product9_ok _ _ ?_ ?_)) ⟨_,_,rfl,rfl⟩ ?_);(iterate 2 (exact sd));rintro _ _ ⟨rfl,rfl⟩))<;>(try simp (disch:=omega) only [push_cast,seval,h5,hw5,hn,Enz,Auz,Btz]))
 | (refine Akz ⟨.inr rfl,[256],[],_,by decide,rfl,?_⟩;(try simp (disch:=omega) only [push_cast,seval,↓Alz,↓Ajz,↓List.map_cons,↓List.map_nil,h5,hw5,hn,Enz,Auz,Btz]))))
  refine Azz (fun k:Nat=>mkS [(1,.rows false (IL L) L.length),(3,.ref 48 5 0),(5,.ref 80 5 0),(7,.ref 112 1 0),(18,.int .i64 n),(19,.int .i64 k)] [(48,IL e),(80,IL w),(112,[.own 256 n 5]),(256,IL (wyZ e L w k n))]) (fun k=>k ≤ n) (fun k=>n - k) 0 (Nat.zero_le _) ?_ ?_
  · (refine Sub.of_lists ?_ ?_ ?_ ?_ ?_<;>simp [Vw.mkS,Vw.lk,Vw.hk,AV.inn,innL,Arz,Amz,Atz,-List.map_set,-List.getD_eq_getElem?_getD,wyZ_zero])
  · intro k hk
    have hzl:=wyZ_len (e:=e) (L:=L) hw5 hk
    by_cases hkn:k < n
    · have hpos:∀ x ∈ L,(0 ≤ x ∧ x ≤ 4) ∧ 0 < gE e x ∧ gE e x ≤ 60:=fun x hx=>by
        have:=Ciz (xs:=L.map (gE e)) (by omega) (fun z hz=>by obtain ⟨y,hy,rfl⟩:=List.mem_map.1 hz;exact (hb2 y hy).1) _ (List.mem_map.2 ⟨x,hx,rfl⟩)
        exact ⟨hb1 x hx,this,(hb2 x hx).2⟩
      have hst:=wyZ_store (e:=e) (L:=L) (n:=n) hw5 hw5 hkn
      (repeat' (first
 | (first|refine Anz ?_|refine Agz ?_)
 | ((first|refine Aoz ?_|refine Asz (mid:=l98r9a) (post:=l98r9b) Awz (by decide) ?_|refine Asz (mid:=l98r10a) (post:=l98r10b) Awz (by decide) ?_|refine Afz ?_|refine Ahz ?_|refine Aiz ?_);simp (disch:=omega) only [push_cast,seval,l98r0,l98r1,l98r2,l98r3,l98r4,l98r5,l98r6,l98r7,l98r8,l98r9a,l98r9b,l98r9,l98r10a,l98r10b,l98r10,l98r11,l98r12,h5,hw5,Auz,Btz,Apz,hzl,hst])
 | ((first|refine Acz ?_ ?_|refine Aez ?_ ?_|refine Adz ?_ ?_)<;>intro h<;>(try simp only [h])<;>(try simp only [bitvec_to_nat] at h)<;>(try simp only [h])<;>(first|(exfalso;omega)|(exfalso;simp_all;done)|(simp (disch:=omega) only [push_cast,seval,h5,hw5,Auz,Btz,Apz,hzl,hst])|skip))
 | ((first|((with_reducible refine Aqz (f:=113) true ?_);simp (disch:=omega) only [push_cast,seval,h5,hw5,Auz,Btz,Apz,hzl,hst];(refine call0D (Hiz _ _ ?_ ?_) ?_;(iterate 2 (exact sd));rintro _ _ ⟨rfl,rfl⟩)))<;>(try simp (disch:=omega) only [push_cast,seval,h5,hw5,Auz,Btz,Apz,hzl,hst]))
 | ((first|refine Aqz false ?_|refine qcallD_of false ?_);simp (disch:=omega) only [push_cast,seval,h5,hw5,Auz,Btz,Apz,hzl,hst])
 | ((first|((first|refine call0D (tblOf_ok _ _ _ ?_ ?_) ?_|refine qcall0D (tblOf_ok _ _ _ ?_ ?_) ⟨_,_,rfl,rfl⟩ ?_);(iterate 2 (exact sd));rintro _ _ ⟨rfl,rfl⟩)|((first|refine call0D (BCall.ofP (product9_ok _ _ ?_ ?_)) ?_|refine qcall0D (BCall.ofP (product9_ok _ _ ?_ ?_)) ⟨_,_,rfl,rfl⟩ ?_);(iterate 2 (exact sd));rintro _ _ ⟨rfl,rfl⟩))<;>(try simp (disch:=omega) only [push_cast,seval,h5,hw5,Auz,Btz,Apz,hzl,hst]))
 | (refine Akz ⟨.inr rfl,[256],[],_,by decide,rfl,?_⟩;(try simp (disch:=omega) only [push_cast,seval,↓Alz,↓Ajz,↓List.map_cons,↓List.map_nil,h5,hw5,Auz,Btz,Apz,hzl,hst]))))
      have hN:L.length ≤ 1099511627776:=by omega
      refine awp_rf (ids:=[448]) (s1:=mkS [(1,.rows false (IL L) L.length),(3,.ref 48 5 0),(5,.ref 80 5 0),(7,.ref 112 1 0),(8,.ref 128 1 0),(9,.ref 144 1 0),(18,.int .i64 n),(19,.int .i64 k)] [(144,[.int .i64 k]),(256,IL (wy3 e L w k n w)),(128,[.int .i64 k]),(48,IL e),(80,IL w),(112,[.own 256 n 5])])
        (bwL e L hpos) (fun x=>[.int .i64 x.1.1,.int .i64 x.1.2]) [1,3,5,7,8,9,18,19]
        (fun _=>[(1,.rows false (IL L) L.length),(3,.ref 48 5 0),(5,.ref 80 5 0),(7,.ref 112 1 0),(8,.ref 128 1 0),(9,.ref 144 1 0),(18,.int .i64 n),(19,.int .i64 k)])
        (fun pre=>[(144,[.int .i64 (wkS e w k (pre.map (·.1.2))).2]),(256,IL (wy3 e L w k n (wkS e w k (pre.map (·.1.2))).1)),(128,[.int .i64 k]),(48,IL e),(80,IL w),(112,[.own 256 n 5])])
        rfl ?_ (fun id hid=>by simp only [List.mem_singleton] at hid;subst hid;rfl) (bwd_iter (fun x=>x.1.1) (fun x=>x.1.2) (bwL e L hpos) L L.length 448 _ rfl rfl hN (bwL_len e L hpos) (fun j h=>bwL_get e L hpos j h)) ⟨by decide,fun _=>rfl,rfl⟩ ?_ ?_ ?_ rfl rfl ?_ ?_
      · (refine Sub.of_lists ?_ ?_ ?_ ?_ ?_<;>simp [Vw.mkS,Vw.lk,Vw.hk,AV.inn,innL,Arz,Amz,Atz,-List.map_set,-List.getD_eq_getElem?_getD])
      · refine SubW.of ?_
        (refine Sub.of_lists ?_ ?_ ?_ ?_ ?_<;>simp [Vw.mkS,Vw.lk,Vw.hk,AV.inn,innL,Arz,Amz,Atz,-List.map_set,-List.getD_eq_getElem?_getD,wkS_nil])
      · intro pre t ht
        simp only [List.mem_cons,List.not_mem_nil,or_false,not_or] at ht
        simp only [lk,if_neg ht.1,if_neg ht.2.1,if_neg ht.2.2.1,if_neg ht.2.2.2.1,if_neg ht.2.2.2.2.1,if_neg ht.2.2.2.2.2.1,if_neg ht.2.2.2.2.2.2.1,if_neg ht.2.2.2.2.2.2.2]
      · intro pre
        refine plainS_lists fun p hp=>?_
        simp only [List.mem_cons,List.not_mem_nil,or_false] at hp
        rcases hp with rfl|rfl|rfl|rfl|rfl|rfl<;>first|exact spL_IL _|rfl
      · rintro pre ⟨⟨xi,x⟩,hx1,hx2,hx3⟩ _
        simp only at hx1 hx2 hx3
        have hyl:=Ifz e w k (pre.map (·.1.2))
        have hrb:=wkS_bound e w k (pre.map (·.1.2)) (Int.natCast_nonneg _) (fun z hz=>by obtain ⟨q,_,rfl⟩:=List.mem_map.1 hz;exact q.2.2.1)
        have hsn:=wkS_snoc e w k (pre.map (·.1.2)) x
        rw [show pre.map (fun q:bwA e=>q.1.2) ++ [x]=(pre ++ [(⟨(xi,x),hx1,hx2,hx3⟩:bwA e)]).map (·.1.2) by simp] at hsn
        refine awp_mono (Q:=fun e' s''=>e'=.normal ∧ SubW 0 s'' (mkS [(1,.rows false (IL L) L.length),(3,.ref 48 5 0),(5,.ref 80 5 0),(7,.ref 112 1 0),(8,.ref 128 1 0),(9,.ref 144 1 0),(18,.int .i64 n),(19,.int .i64 k)] [(144,[.int .i64 (wkF e (wkS e w k (pre.map (·.1.2))) x).2]),(256,IL (wy3 e L w k n (wkF e (wkS e w k (pre.map (·.1.2))) x).1)),(128,[.int .i64 k]),(48,IL e),(80,IL w),(112,[.own 256 n 5])])) (fun e' s'' hh=>.inl ⟨hh.1,by simp only [hsn];exact hh.2⟩) ?_
        generalize hY:wkS e w k (pre.map (·.1.2))=Y at *
        obtain ⟨y,r⟩:=Y
        simp only at hyl hrb
        obtain ⟨c,rfl⟩:∃ c:Nat,x=c:=⟨x.toNat,by omega⟩
        have hc5:c < 5:=by omega
        rw [hw5] at hyl
        have hge:gE e (c:Int)=e.getD c 0:=by unfold gE;rw [Int.toNat_natCast]
        have hwl:=wy3_len (e:=e) (L:=L) hw5 hyl hkn
        have hws:=wy3_set (e:=e) (L:=L) (k:=k) (n:=n) hw5 hyl c hc5 (r.tmod (gE e c))
        simp only [wkF,Int.toNat_natCast]
        rw [hge] at hx2 hx3 hws ⊢
        show awp _ _ _ _ (mkS ((11,.int .i64 (c:Int)) :: (29,.int .i64 xi) :: (30,.int .i64 (c:Int)) :: [(1,.rows false (IL L) L.length),(3,.ref 48 5 0),(5,.ref 80 5 0),(7,.ref 112 1 0),(8,.ref 128 1 0),(9,.ref 144 1 0),(18,.int .i64 n),(19,.int .i64 k)]) _)
        have htd:0 ≤ r.tdiv (e.getD c 0) ∧ r.tdiv (e.getD c 0) ≤ r:=⟨Int.tdiv_nonneg hrb.1 (by omega),by rw [Int.tdiv_eq_ediv_of_nonneg hrb.1];exact Int.ediv_le_self _ hrb.1⟩
        (repeat' (first
 | (first|refine Anz ?_|refine Agz ?_)
 | ((first|refine Aoz ?_|refine Asz (mid:=l98r9a) (post:=l98r9b) Awz (by decide) ?_|refine Asz (mid:=l98r10a) (post:=l98r10b) Awz (by decide) ?_|refine Afz ?_|refine Ahz ?_|refine Aiz ?_);simp (disch:=omega) only [push_cast,seval,l98r0,l98r1,l98r2,l98r3,l98r4,l98r5,l98r6,l98r7,l98r8,l98r9a,l98r9b,l98r9,l98r10a,l98r10b,l98r10,l98r11,l98r12,h5,hw5,Apz,hwl,hws,Bxz])
 | ((first|refine Acz ?_ ?_|refine Aez ?_ ?_|refine Adz ?_ ?_)<;>intro h<;>(try simp only [h])<;>(try simp only [bitvec_to_nat] at h)<;>(try simp only [h])<;>(first|(exfalso;omega)|(exfalso;simp_all;done)|(simp (disch:=omega) only [push_cast,seval,h5,hw5,Apz,hwl,hws,Bxz])|skip))
 | ((first|((with_reducible refine Aqz (f:=113) true ?_);simp (disch:=omega) only [push_cast,seval,h5,hw5,Apz,hwl,hws,Bxz];(refine call0D (Hiz _ _ ?_ ?_) ?_;(iterate 2 (exact sd));rintro _ _ ⟨rfl,rfl⟩)))<;>(try simp (disch:=omega) only [push_cast,seval,h5,hw5,Apz,hwl,hws,Bxz]))
 | ((first|refine Aqz false ?_|refine qcallD_of false ?_);simp (disch:=omega) only [push_cast,seval,h5,hw5,Apz,hwl,hws,Bxz])
 | ((first|((first|refine call0D (tblOf_ok _ _ _ ?_ ?_) ?_|refine qcall0D (tblOf_ok _ _ _ ?_ ?_) ⟨_,_,rfl,rfl⟩ ?_);(iterate 2 (exact sd));rintro _ _ ⟨rfl,rfl⟩)|((first|refine call0D (BCall.ofP (product9_ok _ _ ?_ ?_)) ?_|refine qcall0D (BCall.ofP (product9_ok _ _ ?_ ?_)) ⟨_,_,rfl,rfl⟩ ?_);(iterate 2 (exact sd));rintro _ _ ⟨rfl,rfl⟩))<;>(try simp (disch:=omega) only [push_cast,seval,h5,hw5,Apz,hwl,hws,Bxz]))))
        refine SubW.of ?_
        (refine Sub.of_lists ?_ ?_ ?_ ?_ ?_<;>simp [Vw.mkS,Vw.lk,Vw.hk,AV.inn,innL,Arz,Amz,Atz,-List.map_set,-List.getD_eq_getElem?_getD,hws,Bxz])
      · (repeat' (first
 | (first|refine Anz ?_|refine Agz ?_)
 | ((first|refine Aoz ?_|refine Asz (mid:=l98r9a) (post:=l98r9b) Awz (by decide) ?_|refine Asz (mid:=l98r10a) (post:=l98r10b) Awz (by decide) ?_|refine Afz ?_|refine Ahz ?_|refine Aiz ?_);simp (disch:=omega) only [push_cast,seval,l98r0,l98r1,l98r2,l98r3,l98r4,l98r5,l98r6,l98r7,l98r8,l98r9a,l98r9b,l98r9,l98r10a,l98r10b,l98r10,l98r11,l98r12,h5,hw5,Apz])
 | ((first|refine Acz ?_ ?_|refine Aez ?_ ?_|refine Adz ?_ ?_)<;>intro h<;>(try simp only [h])<;>(try simp only [bitvec_to_nat] at h)<;>(try simp only [h])<;>(first|(exfalso;omega)|(exfalso;simp_all;done)|(simp (disch:=omega) only [push_cast,seval,h5,hw5,Apz])|skip))
 | ((first|((with_reducible refine Aqz (f:=113) true ?_);simp (disch:=omega) only [push_cast,seval,h5,hw5,Apz];(refine call0D (Hiz _ _ ?_ ?_) ?_;(iterate 2 (exact sd));rintro _ _ ⟨rfl,rfl⟩)))<;>(try simp (disch:=omega) only [push_cast,seval,h5,hw5,Apz]))
 | ((first|refine Aqz false ?_|refine qcallD_of false ?_);simp (disch:=omega) only [push_cast,seval,h5,hw5,Apz])
 | ((first|((first|refine call0D (tblOf_ok _ _ _ ?_ ?_) ?_|refine qcall0D (tblOf_ok _ _ _ ?_ ?_) ⟨_,_,rfl,rfl⟩ ?_);(iterate 2 (exact sd));rintro _ _ ⟨rfl,rfl⟩)|((first|refine call0D (BCall.ofP (product9_ok _ _ ?_ ?_)) ?_|refine qcall0D (BCall.ofP (product9_ok _ _ ?_ ?_)) ⟨_,_,rfl,rfl⟩ ?_);(iterate 2 (exact sd));rintro _ _ ⟨rfl,rfl⟩))<;>(try simp (disch:=omega) only [push_cast,seval,h5,hw5,Apz]))))
        refine ⟨k + 1,by omega,by omega,?_⟩
        have hfin:(wkS e w k ((bwL e L hpos).map (·.1.2))).1=wayK e L w k:=by rw [bwL_snd];rfl
        have hnx:=wyZ_next (e:=e) (L:=L) (w:=w) hkn
        (refine Sub.of_lists ?_ ?_ ?_ ?_ ?_<;>simp [Vw.mkS,Vw.lk,Vw.hk,AV.inn,innL,Arz,Amz,Atz,-List.map_set,-List.getD_eq_getElem?_getD,hfin,hnx])
    · have hkn:k=n:=by omega
      subst hkn
      (repeat' (first
 | (first|refine Anz ?_|refine Agz ?_)
 | ((first|refine Aoz ?_|refine Asz (mid:=l98r9a) (post:=l98r9b) Awz (by decide) ?_|refine Asz (mid:=l98r10a) (post:=l98r10b) Awz (by decide) ?_|refine Afz ?_|refine Ahz ?_|refine Aiz ?_);simp (disch:=omega) only [push_cast,seval,l98r0,l98r1,l98r2,l98r3,l98r4,l98r5,l98r6,l98r7,l98r8,l98r9a,l98r9b,l98r9,l98r10a,l98r10b,l98r10,l98r11,l98r12,h5,hw5,Auz,Btz,Apz,hzl])
 | ((first|refine Acz ?_ ?_|refine Aez ?_ ?_|refine Adz ?_ ?_)<;>intro h<;>(try simp only [h])<;>(try simp only [bitvec_to_nat] at h)<;>(try simp only [h])<;>(first|(exfalso;omega)|(exfalso;simp_all;done)|(simp (disch:=omega) only [push_cast,seval,h5,hw5,Auz,Btz,Apz,hzl])|skip))
 | ((first|((with_reducible refine Aqz (f:=113) true ?_);simp (disch:=omega) only [push_cast,seval,h5,hw5,Auz,Btz,Apz,hzl];(refine call0D (Hiz _ _ ?_ ?_) ?_;(iterate 2 (exact sd));rintro _ _ ⟨rfl,rfl⟩)))<;>(try simp (disch:=omega) only [push_cast,seval,h5,hw5,Auz,Btz,Apz,hzl]))
 | ((first|refine Aqz false ?_|refine qcallD_of false ?_);simp (disch:=omega) only [push_cast,seval,h5,hw5,Auz,Btz,Apz,hzl])
 | ((first|((first|refine call0D (tblOf_ok _ _ _ ?_ ?_) ?_|refine qcall0D (tblOf_ok _ _ _ ?_ ?_) ⟨_,_,rfl,rfl⟩ ?_);(iterate 2 (exact sd));rintro _ _ ⟨rfl,rfl⟩)|((first|refine call0D (BCall.ofP (product9_ok _ _ ?_ ?_)) ?_|refine qcall0D (BCall.ofP (product9_ok _ _ ?_ ?_)) ⟨_,_,rfl,rfl⟩ ?_);(iterate 2 (exact sd));rintro _ _ ⟨rfl,rfl⟩))<;>(try simp (disch:=omega) only [push_cast,seval,h5,hw5,Auz,Btz,Apz,hzl]))
 | (refine Akz ⟨.inr rfl,[256],[],_,by decide,rfl,?_⟩;(try simp (disch:=omega) only [push_cast,seval,↓Alz,↓Ajz,↓List.map_cons,↓List.map_nil,h5,hw5,Auz,Btz,Apz,hzl]))))
      all_goals (try simp [wyZ_all])

end Go.Proofs.Ytbplegbgofnolaa
