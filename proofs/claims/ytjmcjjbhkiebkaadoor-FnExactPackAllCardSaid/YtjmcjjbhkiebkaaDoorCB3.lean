/- Texts of this verifier. -/
import Derived.Test.YtjmcjjbhkiebkaaDoorCB2
import Derived.Test.YtjmcjjbhkiebkaaDoorCM1
import Derived.Test.YtjmcjjbhkiebkaaDoorCW3
set_option maxHeartbeats 4000000
set_option linter.unusedSimpArgs false
set_option linter.unusedVariables false
set_option maxRecDepth 4000
namespace Go.Proofs.YtjmcjjbhkiebkaaDoor
open VwM Vw Go

set_option maxHeartbeats 16000000 in
theorem C1z (s:List Int)(n:Nat)(big al:Bool)(vs:List Int)(m:Nat)(hn:s.length=n)(hm:vs.length=m)(hv:(vF s&&vI s vs)=true):BCall Tryd.prog 20 [.agg [.rows false (IL s) n,.bool big,.bool al],.rows false (IL vs) m] [] (fun r H'=>r=.own 0 (fN al s).toNat 1∧H'=[IL (pkL al big s vs)]):=by
 subst hn hm
 rw [Bool.and_eq_true] at hv
 obtain ⟨hv,hi⟩:=hv
 obtain ⟨hs,hl1,hl2⟩:=Bhz.1 hv
 have hvl:=(Esz.1 hi).1
 have hfl:=Ghz al s
 have hN:=(Cqz (al:=al) hv (k:=0) (by omega)).2.2.2.2.2.1
 have hN38:=(Cqz (al:=al) hv (k:=0) (by omega)).2.2.2.2.1
 generalize hNt:(fN al s).toNat=N at *
 refine A5z (pins:=[]) (pin:=0) l20_eq rfl rfl rfl ?_
 (repeat' ((first
 | (first|refine Agz ?_|refine Aaz ?_)
 | (first|refine Ahz ?_)
 | (first|refine Aoz false ?_)
 | (first|(refine Apz (splaces_ok _ _ _ _ ?_ ?_) ?_;(iterate 2 (exact sd));rintro _ _ ⟨rfl,rfl⟩))
 | (refine Adz ⟨.inr rfl,[272],[],_,by decide,rfl,?_⟩;(try simp (disch:=omega) only [push_cast,seval,↓Aiz,↓Aez,↓List.map_cons,↓List.map_nil,hN,Int.toNat_natCast])))<;>(try simp (disch:=omega) only [push_cast,seval,hN,Int.toNat_natCast])))
 refine Avz (fun k:Nat=>mkS [(1,RI vs),(2,.ref 32 3 0),(5,.own 208 s.length 1),(7,.own 272 N 1),(8,.int .i64 k)] [(272,IL (pkK al big s vs k)),(208,IL (fPL al s)),(32,[RI s,.bool big,.bool al])])
  (fun k=>k≤s.length) (fun k=>s.length-k) 0 (Nat.zero_le _) ?_ ?_
 ·have e0:pkK al big s vs 0=List.replicate N 0:=by rw [← hNt];rfl
  (refine Sub.of_lists ?_ ?_ ?_ ?_ ?_<;>simp [Vw.mkS,Vw.lk,Vw.hk,AV.inn,innL,Akz,Ajz,Amz,-List.map_set,-List.getD_eq_getElem?_getD,e0])
 ·intro k hk
  have hpl:=B5z al big s vs k
  rw [hNt] at hpl
  by_cases hlt:k<s.length
  ·obtain ⟨r1,r2,r3,r4,r5,r6,r7,r8⟩:=Cqz (al:=al) hv hlt
   rw [hNt] at r1 r5 r6
   have r9:=vI_room hv hi hlt
   have hkv:k<vs.length:=by omega
   have hkf:k<(fPL al s).length:=by omega
   have e1:=fPL_getD (al:=al) hlt
   have hnext:pkK al big s vs (k+1)=wsK (pkK al big s vs k) big (fP al s k).toNat (s.getD k 0).toNat (vs.getD k 0) (s.getD k 0).toNat:=by
    rw [ws_wr (by rw [hpl];exact r1)]
    rfl
   generalize hp:(fP al s k).toNat=p at *
   generalize hz:(s.getD k 0).toNat=z at *
   generalize hV:vs.getD k 0=v at *
   have hq:z≤4∧0≤v∧v≤4294967296:=by omega
   have hbl:=byO_length v z big
   (repeat' ((first
 | (first|refine Agz ?_|refine Aaz ?_)
 | (first|refine Ahz ?_|refine A4z (mid:=l20r5a) (post:=l20r5b) Cjz (by decide) ?_|refine Abz ?_|refine Alz ?_)
 | ((first|refine Acz (fun h=>?_) (fun h=>?_))<;>(try simp only [h])<;>(try simp only [bitvec_to_nat] at h)<;>(try simp only [h])<;>(first|(exfalso;omega)|(exfalso;simp_all;done)|skip))
 | (first|refine Aoz false ?_)
 | (first|(refine Apz (sbytes_ok _ _ _ ?_) ?_;(exact sd);rintro _ _ ⟨rfl,rfl⟩))
 | (refine Adz ⟨.inr rfl,[272],[],_,by decide,rfl,?_⟩;(try simp (disch:=omega) only [push_cast,seval,↓Aiz,↓Aez,↓List.map_cons,↓List.map_nil,r8,hV])))<;>(try simp (disch:=omega) only [push_cast,seval,r8,hV])))
   refine Avz (fun j:Nat=>mkS [(1,RI vs),(2,.ref 32 3 0),(5,.own 208 s.length 1),(7,.own 272 N 1),(8,.int .i64 k),(9,.own 560 z 1),(10,.int .i64 j)] [(560,IL (byO v z big)),(272,IL (wsK (pkK al big s vs k) big p z v j)),(208,IL (fPL al s)),(32,[RI s,.bool big,.bool al])])
    (fun j=>j≤z) (fun j=>z-j) 0 (Nat.zero_le _) ?_ ?_
   ·have e0:wsK (pkK al big s vs k) big p z v 0=pkK al big s vs k:=rfl
    (refine Sub.of_lists ?_ ?_ ?_ ?_ ?_<;>simp [Vw.mkS,Vw.lk,Vw.hk,AV.inn,innL,Akz,Ajz,Amz,-List.map_set,-List.getD_eq_getElem?_getD,e0,hbl])
   ·intro j hj
    have hwl:=C0z (pkK al big s vs k) big p z v j
    rw [hpl] at hwl
    by_cases hjt:j<z
    ·have e3:wsK (pkK al big s vs k) big p z v (j+1)=(wsK (pkK al big s vs k) big p z v j).set (p+j) (byt v (plc big z j)):=rfl
     have e4:=byO_getD (v:=v) (big:=big) hjt
     obtain ⟨y,hy⟩:∃ y:Nat,p+j=y:=⟨_,rfl⟩
     have hyi:(p:Int)+(j:Int)=(y:Int):=by omega
     have hyl:y<N:=by omega
     rw [hy] at e3
     generalize hW:wsK (pkK al big s vs k) big p z v j=W at *
     generalize hB:byO v z big=B at *
     generalize hQ:fPL al s=Q at *
     (repeat' (first
 | (first|refine Agz ?_|refine Aaz ?_)
 | ((first|refine Ahz ?_|refine A4z (mid:=l20r8a) (post:=l20r8b) Cjz (by decide) ?_|refine Abz ?_|refine Alz ?_);simp (disch:=omega) only [push_cast,seval,e1,r7,e4,hyi,hwl,hbl,hfl,Bdz,List.length_map,Int.toNat_natCast])
 | ((first|refine Acz (fun h=>?_) (fun h=>?_))<;>(try simp only [h])<;>(try simp only [bitvec_to_nat] at h)<;>(try simp only [h])<;>(first|(exfalso;omega)|(exfalso;simp_all;done)|(simp (disch:=omega) only [push_cast,seval,e1,r7,e4,hyi,hwl,hbl,hfl,Bdz,List.length_map,Int.toNat_natCast])|skip))
 | (refine Adz ⟨.inr rfl,[272],[],_,by decide,rfl,?_⟩; (try simp (disch := omega) only [push_cast,seval,↓Aiz,↓Aez,↓List.map_cons,↓List.map_nil,e1,r7,e4,hyi,hwl,hbl,hfl,Bdz,List.length_map,Int.toNat_natCast]))))
     refine ⟨j+1,by omega,by omega,?_⟩
     (refine Sub.of_lists ?_ ?_ ?_ ?_ ?_<;>simp [Vw.mkS,Vw.lk,Vw.hk,AV.inn,innL,Akz,Ajz,Amz,-List.map_set,-List.getD_eq_getElem?_getD,e3,hW,hB,hQ])
    ·have e:j=z:=by omega
     subst e
     (repeat' (first
 | (first|refine Agz ?_|refine Aaz ?_)
 | ((first|refine Ahz ?_|refine Abz ?_|refine Arz ?_);simp (disch:=omega) only [push_cast,seval,hbl])
 | ((first|refine Acz (fun h=>?_) (fun h=>?_))<;>(try simp only [h])<;>(try simp only [bitvec_to_nat] at h)<;>(try simp only [h])<;>(first|(exfalso;omega)|(exfalso;simp_all;done)|(simp (disch:=omega) only [push_cast,seval,hbl])|skip))
 | (refine Adz ⟨.inr rfl,[272],[],_,by decide,rfl,?_⟩; (try simp (disch := omega) only [push_cast,seval,↓Aiz,↓Aez,↓List.map_cons,↓List.map_nil,hbl]))))
     refine ⟨k+1,by omega,by omega,?_⟩
     (refine Sub.of_lists ?_ ?_ ?_ ?_ ?_<;>simp [Vw.mkS,Vw.lk,Vw.hk,AV.inn,innL,Akz,Ajz,Amz,-List.map_set,-List.getD_eq_getElem?_getD,hnext])
  ·have e:k=s.length:=by omega
   subst e
   have e2:pkK al big s vs s.length=pkL al big s vs:=rfl
   rw [e2] at hpl ⊢
   (repeat' (first
 | (first|refine Agz ?_|refine Aaz ?_)
 | ((first|refine Ahz ?_|refine Abz ?_|refine Arz ?_);simp (disch:=omega) only [push_cast,seval,hpl,hvl])
 | ((first|refine Acz (fun h=>?_) (fun h=>?_))<;>(try simp only [h])<;>(try simp only [bitvec_to_nat] at h)<;>(try simp only [h])<;>(first|(exfalso;omega)|(exfalso;simp_all;done)|(simp (disch:=omega) only [push_cast,seval,hpl,hvl])|skip))
 | (refine Adz ⟨.inr rfl,[272],[],_,by decide,rfl,?_⟩;(try simp (disch:=omega) only [push_cast,seval,↓Aiz,↓Aez,↓List.map_cons,↓List.map_nil,hpl,hvl]))))
   all_goals simp


set_option maxHeartbeats 16000000 in
theorem ipacked_ok (s:List Int)(n:Nat)(big al:Bool)(vs:List Int)(m:Nat)(hn:s.length=n)(hm:vs.length=m)(hv:(vF s&&vI s vs)=true):BCall Tryd.prog 25 [.agg [.rows false (IL s) n,.bool big,.bool al],.rows false (IL vs) m] [] (fun r H'=>r=.own 0 (fN al s).toNat 1∧H'=[IL (pkL al big s vs)]):=by
 subst hn hm
 rw [Bool.and_eq_true] at hv
 obtain ⟨hv,hi⟩:=hv
 obtain ⟨hs,hl1,hl2⟩:=Bhz.1 hv
 have hvl:=(Esz.1 hi).1
 have hfl:=Bfz al s s.length
 have hN:=(Cqz (al:=al) hv (k:=0) (by omega)).2.2.2.2.2.1
 have hN38:=(Cqz (al:=al) hv (k:=0) (by omega)).2.2.2.2.1
 generalize hNt:(fN al s).toNat=N at *
 refine A5z (pins:=[]) (pin:=0) l25_eq rfl rfl rfl ?_
 cases big with
 | true =>
  (repeat' ((first
 | (first|refine Agz ?_|refine Aaz ?_)
 | (first|refine Ahz ?_|refine A4z (mid:=l25r1a) (post:=l25r1b) Cjz (by decide) ?_)
 | (first|refine Aoz false ?_|refine Bmz false ?_)
 | (first|((first|refine Apz (Atz (Gdz _ _ _ _ ?_ ?_)) ?_|refine Ayz (Atz (Gdz _ _ _ _ ?_ ?_)) ⟨_,_,rfl,rfl⟩ ?_);(iterate 2 (exact sd));rintro _ _ ⟨rfl,rfl⟩)|((first|refine Apz (Atz (Epz _ _ _ _)) ?_|refine Ayz (Atz (Epz _ _ _ _)) ⟨_,_,rfl,rfl⟩ ?_);rintro _ _ ⟨rfl,rfl⟩)|((first|refine Apz (Bsz _ _ _ _ ?_ ?_) ?_|refine Ayz (Bsz _ _ _ _ ?_ ?_) ⟨_,_,rfl,rfl⟩ ?_);(iterate 2 (exact sd));rintro _ _ ⟨rfl,rfl⟩))
 | (refine Adz ⟨.inr rfl,[176],[],_,by decide,rfl,?_⟩;(try simp (disch:=omega) only [push_cast,seval,↓Aiz,↓Aez,↓List.map_cons,↓List.map_nil,hN,Int.toNat_natCast])))<;>(try simp (disch:=omega) only [push_cast,seval,hN,Int.toNat_natCast])))
  refine Avz (fun k:Nat=>mkS [(1,RI vs),(5,.own 176 N 1),(6,.ref 96 1 0),(15,.own 240 s.length 2),(16,.int .i64 s.length),(17,.int .i64 k)] [(176,IL (pkK al true s vs k)),(96,[.val (.func (.func 41) #[] #[])]),(240,IL (fL2 al s s.length))])
   (fun k=>k≤s.length) (fun k=>s.length-k) 0 (Nat.zero_le _) ?_ ?_
  ·have e0:pkK al true s vs 0=List.replicate N 0:=by rw [← hNt];rfl
   (refine Sub.of_lists ?_ ?_ ?_ ?_ ?_<;>simp [Vw.mkS,Vw.lk,Vw.hk,AV.inn,innL,Akz,Ajz,Amz,-List.map_set,-List.getD_eq_getElem?_getD,e0])
  ·intro k hk
   have hpl:=B5z al true s vs k
   rw [hNt] at hpl
   by_cases hlt:k<s.length
   ·obtain ⟨r1,r2,r3,r4,r5,r6,r7,r8⟩:=Cqz (al:=al) hv hlt
    rw [hNt] at r1 r5 r6
    have r9:=vI_room hv hi hlt
    have hkv:k<vs.length:=by omega
    have g:=Foz (al:=al) (s:=s) (n:=s.length) (k:=k) hlt
    have htd:=td2 (by omega) (g.1.trans r7) (g.2.trans r8)
    have e3:pkK al true s vs (k+1)=wrK (pkK al true s vs k) true (fP al s k).toNat (s.getD k 0).toNat (vs.getD k 0) (s.getD k 0).toNat:=rfl
    have hwl:=Bez (pkK al true s vs k) true (fP al s k).toNat (s.getD k 0).toNat (vs.getD k 0) (s.getD k 0).toNat
    rw [hpl] at hwl
    have hif:k*2+2≤s.length*2:=by omega
    have hz4:=Bhz.1 hv
    have hz5:=hz4.1 k hlt
    clear g r2 r3 r4 hz4
    generalize hp:(fP al s k).toNat=p at *
    generalize hz:(s.getD k 0).toNat=z at *
    generalize hV:vs.getD k 0=v at *
    generalize hW:pkK al true s vs k=W at *
    generalize hQ:fL2 al s s.length=Q at *
    have hq:(N≤100∧(1≤z∧z≤4)∧p+z≤N)∧0≤v∧v≤4294967296:=by omega
    clear r1 r5 r7 r8
    (repeat' ((first
 | (first|refine Agz ?_|refine Aaz ?_)
 | (first|refine Ahz ?_|refine A4z (mid:=l25r5a) (post:=l25r5b) Cjz (by decide) ?_|refine Abz ?_|refine Alz ?_)
 | ((first|refine Acz (fun h=>?_) (fun h=>?_))<;>(try simp only [h])<;>(try simp only [bitvec_to_nat] at h)<;>(try simp only [h])<;>(first|(exfalso;omega)|(exfalso;simp_all;done)|skip))
 | (first|((with_reducible refine B7z (f:=38) [176] false ?_);simp (disch:=omega) only [push_cast,seval,hfl,htd,hif,hV,hpl,hwl,List.length_map];(refine Glz (id:=176) (writeH_ok _ _ _ _ _ ?_ ?_) (by (simp (disch:=omega) only [push_cast,seval,hfl,htd,hif,hV,hpl,hwl,List.length_map])<;>rfl) ?_;(iterate 2 (exact sd));rintro _ _ ⟨rfl,rfl⟩)))
 | (refine Adz ⟨.inr rfl,[176],[],_,by decide,rfl,?_⟩;(try simp (disch:=omega) only [push_cast,seval,↓Aiz,↓Aez,↓List.map_cons,↓List.map_nil,hfl,htd,hif,hV,hpl,hwl,List.length_map])))<;>(try simp (disch:=omega) only [push_cast,seval,hfl,htd,hif,hV,hpl,hwl,List.length_map])))
    refine ⟨k+1,by omega,by omega,?_⟩
    (refine Sub.of_lists ?_ ?_ ?_ ?_ ?_<;>simp [Vw.mkS,Vw.lk,Vw.hk,AV.inn,innL,Akz,Ajz,Amz,-List.map_set,-List.getD_eq_getElem?_getD,e3,hW,hQ])
   ·have e:k=s.length:=by omega
    subst e
    have e2:pkK al true s vs s.length=pkL al true s vs:=rfl
    rw [e2] at hpl ⊢
    (repeat' (first
 | (first|refine Agz ?_|refine Aaz ?_)
 | ((first|refine Ahz ?_|refine Abz ?_|refine Arz ?_);simp (disch:=omega) only [push_cast,seval,hpl])
 | ((first|refine Acz (fun h=>?_) (fun h=>?_))<;>(try simp only [h])<;>(try simp only [bitvec_to_nat] at h)<;>(try simp only [h])<;>(first|(exfalso;omega)|(exfalso;simp_all;done)|(simp (disch:=omega) only [push_cast,seval,hpl])|skip))
 | (refine Adz ⟨.inr rfl,[176],[],_,by decide,rfl,?_⟩;(try simp (disch:=omega) only [push_cast,seval,↓Aiz,↓Aez,↓List.map_cons,↓List.map_nil,hpl]))))
    all_goals simp
 | false =>
  (repeat' ((first
 | (first|refine Agz ?_|refine Aaz ?_)
 | (first|refine Ahz ?_|refine A4z (mid:=l25r1a) (post:=l25r1b) Cjz (by decide) ?_)
 | (first|refine Aoz false ?_|refine Bmz false ?_)
 | (first|((first|refine Apz (Atz (Gdz _ _ _ _ ?_ ?_)) ?_|refine Ayz (Atz (Gdz _ _ _ _ ?_ ?_)) ⟨_,_,rfl,rfl⟩ ?_);(iterate 2 (exact sd));rintro _ _ ⟨rfl,rfl⟩)|((first|refine Apz (Atz (Epz _ _ _ _)) ?_|refine Ayz (Atz (Epz _ _ _ _)) ⟨_,_,rfl,rfl⟩ ?_);rintro _ _ ⟨rfl,rfl⟩)|((first|refine Apz (Bsz _ _ _ _ ?_ ?_) ?_|refine Ayz (Bsz _ _ _ _ ?_ ?_) ⟨_,_,rfl,rfl⟩ ?_);(iterate 2 (exact sd));rintro _ _ ⟨rfl,rfl⟩))
 | (refine Adz ⟨.inr rfl,[176],[],_,by decide,rfl,?_⟩;(try simp (disch:=omega) only [push_cast,seval,↓Aiz,↓Aez,↓List.map_cons,↓List.map_nil,hN,Int.toNat_natCast])))<;>(try simp (disch:=omega) only [push_cast,seval,hN,Int.toNat_natCast])))
  refine Avz (fun k:Nat=>mkS [(1,RI vs),(5,.own 176 N 1),(6,.ref 96 1 0),(15,.own 240 s.length 2),(16,.int .i64 s.length),(17,.int .i64 k)] [(176,IL (pkK al false s vs k)),(96,[.val (.func (.func 42) #[] #[])]),(240,IL (fL2 al s s.length))])
   (fun k=>k≤s.length) (fun k=>s.length-k) 0 (Nat.zero_le _) ?_ ?_
  ·have e0:pkK al false s vs 0=List.replicate N 0:=by rw [← hNt];rfl
   (refine Sub.of_lists ?_ ?_ ?_ ?_ ?_<;>simp [Vw.mkS,Vw.lk,Vw.hk,AV.inn,innL,Akz,Ajz,Amz,-List.map_set,-List.getD_eq_getElem?_getD,e0])
  ·intro k hk
   have hpl:=B5z al false s vs k
   rw [hNt] at hpl
   by_cases hlt:k<s.length
   ·obtain ⟨r1,r2,r3,r4,r5,r6,r7,r8⟩:=Cqz (al:=al) hv hlt
    rw [hNt] at r1 r5 r6
    have r9:=vI_room hv hi hlt
    have hkv:k<vs.length:=by omega
    have g:=Foz (al:=al) (s:=s) (n:=s.length) (k:=k) hlt
    have htd:=td2 (by omega) (g.1.trans r7) (g.2.trans r8)
    have e3:pkK al false s vs (k+1)=wrK (pkK al false s vs k) false (fP al s k).toNat (s.getD k 0).toNat (vs.getD k 0) (s.getD k 0).toNat:=rfl
    have hwl:=Bez (pkK al false s vs k) false (fP al s k).toNat (s.getD k 0).toNat (vs.getD k 0) (s.getD k 0).toNat
    rw [hpl] at hwl
    have hif:k*2+2≤s.length*2:=by omega
    have hz4:=Bhz.1 hv
    have hz5:=hz4.1 k hlt
    clear g r2 r3 r4 hz4
    generalize hp:(fP al s k).toNat=p at *
    generalize hz:(s.getD k 0).toNat=z at *
    generalize hV:vs.getD k 0=v at *
    generalize hW:pkK al false s vs k=W at *
    generalize hQ:fL2 al s s.length=Q at *
    have hq:(N≤100∧(1≤z∧z≤4)∧p+z≤N)∧0≤v∧v≤4294967296:=by omega
    clear r1 r5 r7 r8
    (repeat' ((first
 | (first|refine Agz ?_|refine Aaz ?_)
 | (first|refine Ahz ?_|refine A4z (mid:=l25r5a) (post:=l25r5b) Cjz (by decide) ?_|refine Abz ?_|refine Alz ?_)
 | ((first|refine Acz (fun h=>?_) (fun h=>?_))<;>(try simp only [h])<;>(try simp only [bitvec_to_nat] at h)<;>(try simp only [h])<;>(first|(exfalso;omega)|(exfalso;simp_all;done)|skip))
 | (first|((with_reducible refine B7z (f:=38) [176] false ?_);simp (disch:=omega) only [push_cast,seval,hfl,htd,hif,hV,hpl,hwl,List.length_map];(refine Glz (id:=176) (writeL_ok _ _ _ _ _ ?_ ?_) (by (simp (disch:=omega) only [push_cast,seval,hfl,htd,hif,hV,hpl,hwl,List.length_map])<;>rfl) ?_;(iterate 2 (exact sd));rintro _ _ ⟨rfl,rfl⟩)))
 | (refine Adz ⟨.inr rfl,[176],[],_,by decide,rfl,?_⟩;(try simp (disch:=omega) only [push_cast,seval,↓Aiz,↓Aez,↓List.map_cons,↓List.map_nil,hfl,htd,hif,hV,hpl,hwl,List.length_map])))<;>(try simp (disch:=omega) only [push_cast,seval,hfl,htd,hif,hV,hpl,hwl,List.length_map])))
    refine ⟨k+1,by omega,by omega,?_⟩
    (refine Sub.of_lists ?_ ?_ ?_ ?_ ?_<;>simp [Vw.mkS,Vw.lk,Vw.hk,AV.inn,innL,Akz,Ajz,Amz,-List.map_set,-List.getD_eq_getElem?_getD,e3,hW,hQ])
   ·have e:k=s.length:=by omega
    subst e
    have e2:pkK al false s vs s.length=pkL al false s vs:=rfl
    rw [e2] at hpl ⊢
    (repeat' (first
 | (first|refine Agz ?_|refine Aaz ?_)
 | ((first|refine Ahz ?_|refine Abz ?_|refine Arz ?_);simp (disch:=omega) only [push_cast,seval,hpl])
 | ((first|refine Acz (fun h=>?_) (fun h=>?_))<;>(try simp only [h])<;>(try simp only [bitvec_to_nat] at h)<;>(try simp only [h])<;>(first|(exfalso;omega)|(exfalso;simp_all;done)|(simp (disch:=omega) only [push_cast,seval,hpl])|skip))
 | (refine Adz ⟨.inr rfl,[176],[],_,by decide,rfl,?_⟩;(try simp (disch:=omega) only [push_cast,seval,↓Aiz,↓Aez,↓List.map_cons,↓List.map_nil,hpl]))))
    all_goals simp

end Go.Proofs.YtjmcjjbhkiebkaaDoor
namespace Go.Proofs.YtjmcjjbhkiebkaaDoor
open VwM Vw Go

end Go.Proofs.YtjmcjjbhkiebkaaDoor
namespace Go.Proofs.YtjmcjjbhkiebkaaDoor
open VwM Vw Go

end Go.Proofs.YtjmcjjbhkiebkaaDoor
namespace Go.Proofs.YtjmcjjbhkiebkaaDoor
open VwM Vw Go

theorem szFmt_ok (s:List Int)(n:Nat)(big al:Bool)(left:Int)(hb:0≤left∧left≤1048576∧n≤9223372036854775807):PCall Tryd.prog 4 [.agg [.rows false (IL s) n,.bool big,.bool al],.int .i64 left] (fun r=>r=.int .i64 (if left-n<0 then -1 else left-n)):=by
 obtain ⟨h1,h2,h3⟩:=hb
 refine Awz l4_eq rfl ?_
 by_cases h:left-n<0
 ·(repeat' ((first
 | (first|refine Agz ?_|refine Aaz ?_)
 | (first|refine Ahz ?_|refine Abz ?_)
 | (first|refine Aoz false ?_)
 | (first|(refine Apz (Atz (Duz _ _ _ ?_ ?_)) ?_;(iterate 2 (exact sd));rintro _ _ ⟨rfl,rfl⟩))
 | (refine Adz ⟨.inr rfl,_,rfl,?_⟩))<;>(try simp (disch:=omega) only [push_cast,seval,h])))
  all_goals simp [h]
 ·(repeat' ((first
 | (first|refine Agz ?_|refine Aaz ?_)
 | (first|refine Ahz ?_|refine Abz ?_|refine Alz ?_)
 | (first|refine Aoz false ?_)
 | (first|(refine Apz (Atz (Duz _ _ _ ?_ ?_)) ?_;(iterate 2 (exact sd));rintro _ _ ⟨rfl,rfl⟩))
 | (refine Adz ⟨.inr rfl,_,rfl,?_⟩))<;>(try simp (disch:=omega) only [push_cast,seval,h])))
  all_goals simp [h]


theorem Dhz (s:List Int)(n:Nat)(big al:Bool)(hn:s.length=n)(hb:n≤1048576):BCall Tryd.prog 7 [.agg [.rows false (IL s) n,.bool big,.bool al]] [] (fun r H'=>r=.agg [.own 0 s.length 1,.bool big,.bool al]∧H'=[IL s]):=by
 subst hn
 refine A5z (pins:=[]) (pin:=0) l7_eq rfl rfl rfl ?_
 (repeat' ((first
 | (first|refine Agz ?_|refine Aaz ?_)
 | (first|refine Ahz ?_)
 | (first|refine Aoz false ?_)
 | (first|(refine Apz (Euz _ _ ?_ ?_) ?_;(iterate 2 (exact sd));rintro _ _ ⟨rfl,rfl⟩))
 | (refine Adz ⟨.inr rfl,[96],[],_,by decide,rfl,?_⟩;(try simp (disch:=omega) only [push_cast,seval,↓Aiz,↓Aez,↓List.map_cons,↓List.map_nil])))<;>(try simp (disch:=omega) only [push_cast,seval])))
 all_goals simp


theorem Fqz (s:List Int)(n:Nat)(big al:Bool)(s':List Int)(n':Nat)(big' al':Bool)(hn:s.length=n)(hn':s'.length=n')(hb:n≤1048576∧n'≤1048576):PCall Tryd.prog 11 [.agg [.rows false (IL s) n,.bool big,.bool al],.agg [.rows false (IL s') n',.bool big',.bool al']] (fun r=>r=.bool (decide (s=s')&&decide (big=big')&&decide (al=al'))):=by
 subst hn hn'
 obtain ⟨h1,h2⟩:=hb
 refine Awz l11_eq rfl ?_
 by_cases hs:s=s'
 ·subst hs
  cases big<;>cases big'<;>cases al<;>cases al'
  all_goals ((repeat' ((first
 | (first|refine Agz ?_|refine Aaz ?_)
 | (first|refine Ahz ?_|refine Abz ?_|refine Alz ?_)
 | ((first|refine Acz (fun h=>?_) (fun h=>?_))<;>(try simp only [h])<;>(try simp only [bitvec_to_nat] at h)<;>(try simp only [h])<;>(first|(exfalso;omega)|(exfalso;simp_all;done)|skip))
 | (first|refine Aoz false ?_)
 | (first|(refine Apz (Atz (Cvz _ _ _ _ ?_ ?_ ?_)) ?_;(iterate 3 (exact sd));rintro _ _ ⟨rfl,rfl⟩))
 | (refine Adz ⟨.inr rfl,_,rfl,?_⟩;(try simp (disch:=omega) only [push_cast,seval,decide_true]))))<;>(try simp (disch:=omega) only [push_cast,seval,decide_true])))
  all_goals simp
 ·have hd:decide (s=s')=false:=decide_eq_false hs
  (repeat' ((first
 | (first|refine Agz ?_|refine Aaz ?_)
 | (first|refine Ahz ?_|refine Abz ?_)
 | (first|refine Aoz false ?_)
 | (first|(refine Apz (Atz (Cvz _ _ _ _ ?_ ?_ ?_)) ?_;(iterate 3 (exact sd));rintro _ _ ⟨rfl,rfl⟩))
 | (refine Adz ⟨.inr rfl,_,rfl,?_⟩))<;>(try simp (disch:=omega) only [push_cast,seval,hd])))
  all_goals simp


theorem G6z (s:List Int)(n:Nat)(big al:Bool)(k:Int)(hn:s.length=n)(hk:(0≤k∧k≤100000000)∧n≤100000000):BCall Tryd.prog 13 [.agg [.own 0 n 1,.bool big,.bool al],.int .i64 k] [IL s] (fun r H'=>r=.int .i64 (k+n)∧H'=[IL (upFrom k n)]):=by
 subst hn
 refine A5z (pins:=[0]) (pin:=1) l13_eq rfl rfl rfl ?_
 (repeat' ((first
 | (first|refine Agz ?_|refine Aaz ?_)
 | (first|refine Ahz ?_)
 | (first|((with_reducible refine B7z (f:=15) [0] false ?_);simp (disch:=omega) only [push_cast,seval];(refine Glz (id:=0) (Dkz _ _ _ ?_ ?_) (by (simp (disch:=omega) only [push_cast,seval])<;>rfl) ?_;(iterate 2 (exact sd));rintro _ _ ⟨rfl,rfl⟩)))
 | (refine Adz ⟨.inr rfl,[],[],_,by decide,rfl,?_⟩;(try simp (disch:=omega) only [push_cast,seval,↓Aiz,↓Aez,↓List.map_cons,↓List.map_nil])))<;>(try simp (disch:=omega) only [push_cast,seval])))

end Go.Proofs.YtjmcjjbhkiebkaaDoor
namespace Go.Proofs.YtjmcjjbhkiebkaaDoor
open VwM Vw Go

end Go.Proofs.YtjmcjjbhkiebkaaDoor
namespace Go.Proofs.YtjmcjjbhkiebkaaDoor
open VwM Vw Go

theorem mem_lt {α:Type}{l:List α}{i:Nat}(h:i<l.length):∃ x,l[i]?=some x:=⟨_,List.getElem?_eq_getElem h⟩

end Go.Proofs.YtjmcjjbhkiebkaaDoor
namespace Go.Proofs.YtjmcjjbhkiebkaaDoor
open VwM Vw Go

end Go.Proofs.YtjmcjjbhkiebkaaDoor
namespace Go.Proofs.YtjmcjjbhkiebkaaDoor
open VwM Vw Go

end Go.Proofs.YtjmcjjbhkiebkaaDoor
namespace Go.Proofs.YtjmcjjbhkiebkaaDoor
open VwM Vw Go

theorem Fdz {p:Nat→Bool}:∀ {L:List AV},(∀ a∈L,a.inn p=true)→innL p L=true
 | [],_=>rfl
 | a::r,h=>by
  simp only [innL,Bool.and_eq_true]
  exact ⟨h a (by simp),Fdz fun x hx=>h x (by simp [hx])⟩
theorem Fcz {p:Nat→Bool}:∀ {L:List AV},innL p L=true→∀ a∈L,a.inn p=true
 | a::r,h,x,hx=>by
  simp only [innL,Bool.and_eq_true] at h
  rcases List.mem_cons.1 hx with e|e
  ·rw [e];exact h.1
  ·exact Fcz h.2 x e
theorem set1 {A D:List AV}{p:Nat}(h:A.length=p)(hD:1≤D.length)(a:AV):(A++D).set p a=A++[a]++D.drop 1:=by
 subst h
 match D,hD with
 | d0::D,_=>simp [List.set_append]
theorem LL_step {ls:List (List Int)}{i:Nat}{l:List Int}(hv:ls[i]?=some l){Z:List AV}(hZ:Z.length=ls.length) :
  (LL true (ls.take i)++Z.drop i).set i (.rows true (IL l) l.length)=LL true (ls.take (i+1))++Z.drop (i+1):=by
 have hi:i<ls.length:=(List.getElem?_eq_some_iff.1 hv).1
 rw [set1 (by rw [Baz,List.length_take];omega) (by rw [List.length_drop];omega),List.drop_drop,List.take_add_one,hv,LL_append]
 rfl
theorem toIntSP_ok (xs:List Int)(n:Nat)(hn:xs.length=n)(hb:n≤1099511627776):PCall Tryd.prog 21 [.rows false (IL xs) n] (fun r=>r=.rows true (IL xs) xs.length):=plainI (Euz xs n hn hb)


set_option maxHeartbeats 8000000 in
theorem toIntSS_ok (ls:List (List Int))(n:Nat)(hn:ls.length=n)(hb:n≤1048576∧∀ l∈ls,l.length≤1099511627776):BCall Tryd.prog 8 [.rows false (LL false ls) n] [] (fun r H'=>r=.own 0 n 1∧H'=[LL true ls]):=by
 subst hn
 obtain ⟨hb1,hb2⟩:=hb
 refine A5z (pins:=[]) (pin:=0) l8_eq rfl rfl rfl ?_
 have hll:=Baz false ls
 have hzl:(List.replicate ls.length (AV.val (.slice none 0 0))).length=ls.length:=by simp
 have hz0:(List.replicate ls.length (AV.val (.slice none 0 0))).drop 0=List.replicate ls.length (AV.val (.slice none 0 0)):=List.drop_zero ..
 have hzi:∀ p:Nat→Bool,innL p (List.replicate ls.length (AV.val (.slice none 0 0)))=true:=fun p=>Fdz fun a ha=>by
  rw [(List.mem_replicate.1 ha).2];rfl
 (repeat' (first
 | (first|refine Agz ?_|refine Aaz ?_)
 | ((first|refine Ahz ?_);simp (disch:=omega) only [push_cast,seval,Afz])
 | (refine Adz ⟨.inr rfl,[112],[],_,by decide,rfl,?_⟩;(try simp (disch:=omega) only [push_cast,seval,↓Aiz,↓Aez,↓List.map_cons,↓List.map_nil,Afz]))))
 generalize hZ:List.replicate ls.length (AV.val (.slice none 0 0))=Z at *
 refine Avz (fun i:Nat=>mkS [(0,.rows false (LL false ls) ls.length),(3,.own 112 ls.length 1),(4,.int .i64 i)] [(112,LL true (ls.take i)++Z.drop i)]) (fun i=>i≤ls.length) (fun i=>ls.length-i) 0 (Nat.zero_le _) ?_ ?_
 ·(refine Sub.of_lists ?_ ?_ ?_ ?_ ?_<;>simp [Vw.mkS,Vw.lk,Vw.hk,AV.inn,innL,Akz,Ajz,Amz,-List.map_set,-List.getD_eq_getElem?_getD,Afz,LL,hzi])
 ·intro i hi
  by_cases hlt:i<ls.length
  ·obtain ⟨l,hli⟩:=mem_lt hlt
   have hbb:=hb2 _ (List.mem_of_getElem? hli)
   have hd:=Drz false ls i hli
   have hil:i+1≤ls.length:=by omega
   have hst:=LL_step hli hzl
   have hwl:(LL true (ls.take i)++Z.drop i).length=ls.length:=by rw [List.length_append,Baz,List.length_take,List.length_drop,hzl];omega
   have hwi:∀ p:Nat→Bool,innL p (LL true (ls.take (i+1))++Z.drop (i+1))=true:=fun p=>Fdz fun a ha=>by
    rcases List.mem_append.1 ha with h|h
    ·exact Fcz (Afz true p _) a h
    ·exact Fcz (hzi p) a (List.mem_of_mem_drop h)
   generalize hW:LL true (ls.take i)++Z.drop i=W at *
   generalize hW2:LL true (ls.take (i+1))++Z.drop (i+1)=W2 at *
   (repeat' ((first
 | (first|refine Agz ?_|refine Aaz ?_)
 | (first|refine Ahz ?_|refine Abz ?_|refine Alz ?_)
 | ((first|refine Acz (fun h=>?_) (fun h=>?_))<;>(try simp only [h])<;>(try simp only [bitvec_to_nat] at h)<;>(try simp only [h])<;>(first|(exfalso;omega)|(exfalso;simp_all;done)|skip))
 | (first|refine Aoz false ?_)
 | (first|(refine Apz (Atz (toIntSP_ok _ _ ?_ ?_)) ?_;(iterate 2 (exact sd));rintro _ _ ⟨rfl,rfl⟩))
 | (refine Adz ⟨.inr rfl,[112],[],_,by decide,rfl,?_⟩;(try simp (disch:=omega) only [push_cast,seval,↓Aiz,↓Aez,↓List.map_cons,↓List.map_nil,hd,hll,hil,hwl,Afz])))<;>(try simp (disch:=omega) only [push_cast,seval,hd,hll,hil,hwl,Afz])))
   refine ⟨i+1,by omega,by omega,?_⟩
   (refine Sub.of_lists ?_ ?_ ?_ ?_ ?_<;>simp [Vw.mkS,Vw.lk,Vw.hk,AV.inn,innL,Akz,Ajz,Amz,-List.map_set,-List.getD_eq_getElem?_getD,hst,hW2,hwi,Afz])
  ·have e:i=ls.length:=by omega
   subst e
   have hfin:LL true (ls.take ls.length)++Z.drop ls.length=LL true ls:=by rw [List.take_length,List.drop_eq_nil_of_le (by omega),List.append_nil]
   rw [hfin]
   (repeat' (first
 | (first|refine Agz ?_|refine Aaz ?_)
 | ((first|refine Ahz ?_|refine Abz ?_|refine Arz ?_);simp (disch:=omega) only [push_cast,seval,Afz])
 | ((first|refine Acz (fun h=>?_) (fun h=>?_))<;>(try simp only [h])<;>(try simp only [bitvec_to_nat] at h)<;>(try simp only [h])<;>(first|(exfalso;omega)|(exfalso;simp_all;done)|(simp (disch:=omega) only [push_cast,seval,Afz])|skip))
 | (refine Adz ⟨.inr rfl,[112],[],_,by decide,rfl,?_⟩;(try simp (disch:=omega) only [push_cast,seval,↓Aiz,↓Aez,↓List.map_cons,↓List.map_nil,Afz]))))
   all_goals (first|exact ⟨rfl,rfl⟩|skip)




theorem Evz (ls:List (List Int))(n:Nat)(hn:ls.length=n)(hb:n≤1048576∧∀ l∈ls,l.length≤1099511627776):PCall Tryd.prog 8 [.rows false (LL false ls) n] (fun r=>r=.rows true (LL true ls) n):=by
 refine (BCall.plain (toIntSS_ok ls n hn hb)).mono ?_
 rintro r ⟨r0,H',⟨rfl,rfl⟩,rfl⟩
 have e:=ren_LLs (ρ:=fun _=>none) (Zh:=nthH [LL true ls]) (b0:=true) (n:=2) true ls
 simp [AV.ren,nthH,Baz,hn]
 exact e


set_option maxHeartbeats 8000000 in
theorem szIntSS_ok (ls:List (List Int))(n:Nat)(k:Int)(hn:ls.length=n)(hk:0≤k∧k≤1048576)(hb:n≤9223372036854775807∧∀ l∈ls,l.length≤9223372036854775807):PCall Tryd.prog 5 [.rows false (LL false ls) n,.int .i64 k] (fun r=>∃ z:Int,(0≤z→z≤1048576∧ls.length≤1048576∧∀ l∈ls,l.length≤1048576)∧r=.int .i64 z):=by
 subst hn
 obtain ⟨hb1,hb2⟩:=hb
 refine Awz l5_eq rfl ?_
 have hll:=Baz false ls
 by_cases h0:k-(ls.length:Int)<0
 ·(repeat' (first
 | (first|refine Agz ?_|refine Aaz ?_)
 | ((first|refine Ahz ?_|refine Abz ?_);simp (disch:=omega) only [push_cast,seval,h0,Afz])
 | (refine Adz ⟨.inr rfl,_,rfl,?_⟩;(try simp (disch:=omega) only [push_cast,seval,h0,Afz]))))
  all_goals exact ⟨_,by omega,rfl⟩
 ·(repeat' (first
 | (first|refine Agz ?_|refine Aaz ?_)
 | ((first|refine Ahz ?_|refine Abz ?_|refine Alz ?_);simp (disch:=omega) only [push_cast,seval,h0,Afz])
 | (refine Adz ⟨.inr rfl,_,rfl,?_⟩;(try simp (disch:=omega) only [push_cast,seval,h0,Afz]))))
  refine Avz (fun x:Nat×Int=>mkS [(0,.rows false (LL false ls) ls.length),(1,.int .i64 x.2),(5,.int .i64 x.1)] []) (fun x=>x.1≤ls.length∧(0≤x.2∧x.2≤1048576)∧∀ j l,j<x.1→ls[j]?=some l→l.length≤1048576) (fun x=>ls.length-x.1) (0,k-ls.length) ⟨Nat.zero_le _,by simp only;omega,fun j v h=>absurd h (Nat.not_lt_zero _)⟩ ?_ ?_
  ·(refine Sub.of_lists ?_ ?_ ?_ ?_ ?_<;>simp [Vw.mkS,Vw.lk,Vw.hk,AV.inn,innL,Akz,Ajz,Amz,-List.map_set,-List.getD_eq_getElem?_getD,Afz])
  ·rintro ⟨i,z⟩ ⟨hi,hz,hall⟩
   simp only at hi hz hall ⊢
   by_cases hlt:i<ls.length
   ·obtain ⟨l,hli⟩:=mem_lt hlt
    have hbb:=hb2 _ (List.mem_of_getElem? hli)
    have hd:=Drz false ls i hli
    have hil:i+1≤ls.length:=by omega
    by_cases hs:z-(l.length:Int)<0
    ·(repeat' ((first
 | (first|refine Agz ?_|refine Aaz ?_)
 | (first|refine Ahz ?_|refine Abz ?_|refine Alz ?_)
 | ((first|refine Acz (fun h=>?_) (fun h=>?_))<;>(try simp only [h])<;>(try simp only [bitvec_to_nat] at h)<;>(try simp only [h])<;>(first|(exfalso;omega)|(exfalso;simp_all;done)|skip))
 | (first|refine Aoz false ?_)
 | (first|(refine Apz (Atz (Duz _ _ _ ?_ ?_)) ?_;(iterate 2 (exact sd));rintro _ _ ⟨rfl,rfl⟩))
 | (refine Adz ⟨.inr rfl,_,rfl,?_⟩; (try simp (disch := omega) only [push_cast,seval,hd,hll,hil,hs,Afz])))<;>(try simp (disch:=omega) only [push_cast,seval,hd,hll,hil,hs,Afz])))
     all_goals exact ⟨_,by omega,rfl⟩
    ·(repeat' ((first
 | (first|refine Agz ?_|refine Aaz ?_)
 | (first|refine Ahz ?_|refine Abz ?_|refine Alz ?_)
 | ((first|refine Acz (fun h=>?_) (fun h=>?_))<;>(try simp only [h])<;>(try simp only [bitvec_to_nat] at h)<;>(try simp only [h])<;>(first|(exfalso;omega)|(exfalso;simp_all;done)|skip))
 | (first|refine Aoz false ?_)
 | (first|(refine Apz (Atz (Duz _ _ _ ?_ ?_)) ?_;(iterate 2 (exact sd));rintro _ _ ⟨rfl,rfl⟩))
 | (refine Adz ⟨.inr rfl,_,rfl,?_⟩; (try simp (disch := omega) only [push_cast,seval,hd,hll,hil,hs,Afz])))<;>(try simp (disch:=omega) only [push_cast,seval,hd,hll,hil,hs,Afz])))
     refine ⟨(i+1,z-l.length),⟨by simp only;omega,by simp only;omega,fun j v hj hjv=>?_⟩,by simp only;omega,?_⟩
     ·simp only at hj
      by_cases e:j=i
      ·subst e;rw [hli] at hjv;cases hjv;omega
      ·exact hall j v (by omega) hjv
     ·(refine Sub.of_lists ?_ ?_ ?_ ?_ ?_<;>simp [Vw.mkS,Vw.lk,Vw.hk,AV.inn,innL,Akz,Ajz,Amz,-List.map_set,-List.getD_eq_getElem?_getD,Afz])
   ·(repeat' (first
 | (first|refine Agz ?_|refine Aaz ?_)
 | ((first|refine Ahz ?_|refine Abz ?_|refine Arz ?_);simp (disch:=omega) only [push_cast,seval,Afz])
 | ((first|refine Acz (fun h=>?_) (fun h=>?_))<;>(try simp only [h])<;>(try simp only [bitvec_to_nat] at h)<;>(try simp only [h])<;>(first|(exfalso;omega)|(exfalso;simp_all;done)|(simp (disch:=omega) only [push_cast,seval,Afz])|skip))
 | (refine Adz ⟨.inr rfl,_,rfl,?_⟩;(try simp (disch:=omega) only [push_cast,seval,Afz]))))
    all_goals (refine ⟨_,fun _=>⟨by omega,by omega,fun v hv=>?_⟩,rfl⟩;obtain ⟨j,hj,e⟩:=List.mem_iff_getElem.1 hv;exact hall j v (by omega) (by rw [List.getElem?_eq_getElem hj,e]))


set_option maxHeartbeats 8000000 in
theorem Giz (ls:List (List Int))(n:Nat)(hn:ls.length=n)(hb:n≤1099511627776∧∀ l∈ls,l.length≤1099511627776):PCall Tryd.prog 12 [.rows false (LL false ls) n,.rows false (LL false ls) n] (fun r=>r=.bool true):=by
 subst hn
 obtain ⟨hb1,hb2⟩:=hb
 refine Awz l12_eq rfl ?_
 have hll:=Baz false ls
 (repeat' (first
 | (first|refine Agz ?_|refine Aaz ?_)
 | ((first|refine Ahz ?_|refine Abz ?_|refine Alz ?_);simp (disch:=omega) only [push_cast,seval,Afz,decide_true])
 | (refine Adz ⟨.inr rfl,_,rfl,?_⟩;(try simp (disch:=omega) only [push_cast,seval,Afz,decide_true]))))
 refine Avz (fun i:Nat=>mkS [(0,.rows false (LL false ls) ls.length),(1,.rows false (LL false ls) ls.length),(5,.int .i64 i)] []) (fun i=>i≤ls.length) (fun i=>ls.length-i) 0 (Nat.zero_le _) ?_ ?_
 ·(refine Sub.of_lists ?_ ?_ ?_ ?_ ?_<;>simp [Vw.mkS,Vw.lk,Vw.hk,AV.inn,innL,Akz,Ajz,Amz,-List.map_set,-List.getD_eq_getElem?_getD,Afz])
 ·intro i hi
  by_cases hlt:i<ls.length
  ·obtain ⟨l,hli⟩:=mem_lt hlt
   have hbb:=hb2 _ (List.mem_of_getElem? hli)
   have hd:=Drz false ls i hli
   have hil:i+1≤ls.length:=by omega
   (repeat' ((first
 | (first|refine Agz ?_|refine Aaz ?_)
 | (first|refine Ahz ?_|refine A4z (mid:=l12r5a) (post:=l12r5b) Cjz (by decide) ?_|refine Abz ?_|refine Alz ?_)
 | ((first|refine Acz (fun h=>?_) (fun h=>?_))<;>(try simp only [h])<;>(try simp only [bitvec_to_nat] at h)<;>(try simp only [h])<;>(first|(exfalso;omega)|(exfalso;simp_all;done)|skip))
 | (first|refine Aoz false ?_)
 | (first|(refine Apz (Atz (Cvz _ _ _ _ ?_ ?_ ?_)) ?_;(iterate 3 (exact sd));rintro _ _ ⟨rfl,rfl⟩))
 | (refine Adz ⟨.inr rfl,_,rfl,?_⟩))<;>(try simp (disch:=omega) only [push_cast,seval,hd,hll,hil,Afz,decide_true,Bool.and_self])))
   refine ⟨i+1,by omega,by omega,?_⟩
   (refine Sub.of_lists ?_ ?_ ?_ ?_ ?_<;>simp [Vw.mkS,Vw.lk,Vw.hk,AV.inn,innL,Akz,Ajz,Amz,-List.map_set,-List.getD_eq_getElem?_getD,Afz])
  ·(repeat' (first
 | (first|refine Agz ?_|refine Aaz ?_)
 | ((first|refine Ahz ?_|refine Abz ?_|refine Arz ?_);simp (disch:=omega) only [push_cast,seval,Afz])
 | ((first|refine Acz (fun h=>?_) (fun h=>?_))<;>(try simp only [h])<;>(try simp only [bitvec_to_nat] at h)<;>(try simp only [h])<;>(first|(exfalso;omega)|(exfalso;simp_all;done)|(simp (disch:=omega) only [push_cast,seval,Afz])|skip))
 | (refine Adz ⟨.inr rfl,_,rfl,?_⟩;(try simp (disch:=omega) only [push_cast,seval,Afz]))))


end Go.Proofs.YtjmcjjbhkiebkaaDoor
namespace Go.Proofs.YtjmcjjbhkiebkaaDoor
open VwM Vw Go

theorem mem_ltS {α:Type}{l:List α}{i:Nat}(h:i<l.length):∃ x,l[i]?=some x:=⟨_,List.getElem?_eq_getElem h⟩
theorem innL_repS {P:Nat→Bool}{n:Nat}{a:AV}(h:a.inn P=true):innL P (List.replicate n a)=true:=by
 induction n with
 | zero=>rfl
 | succ n ih=>simp only [List.replicate_succ,innL,h,ih,Bool.and_self]
theorem Dvz (j:Nat):(j+1=0)=False:=by simp
theorem Dzz (j:Nat):(0=j+1)=False:=by simp
theorem swown (a b id n sz:Nat)(h1:id≠a)(h2:id≠b):(AV.own id n sz).sw a b=.own id n sz:=by simp only [AV.sw,Grz h1 h2]
theorem fimne (d j id:Nat)(h:id<1099511627776):id≠fim d j:=fun e=>by have:=Cfz d j;omega
theorem swL_LL (a b:Nat)(c:Bool):∀ ls:List (List Int),swL a b (LL c ls)=LL c ls
 | []=>rfl
 | l::r=>by simp only [LL,swL,AV.sw,swL_IL,swL_LL a b c r]
theorem swp112 (a d i n:Nat)(h:n<1099511627776)(hn:n≠a):swp a (fim d i) n=n:=Grz hn (fimne _ _ _ h)
def cellI (d:Nat)(rows:Nat→List Int)(z:AV)(i p:Nat):AV:=if p<i then .own (fim d p) (rows p).length 1 else z
theorem cellI_inn {d:Nat}{rows:Nat→List Int}{z:AV}{i p:Nat}(c1:List AV)(id0:Nat)(hz:∀ P,z.inn P=true):(cellI d rows z i p).inn (fun id=>(hk ((id0,c1)::famR d rows i) id).isSome)=true:=by
 unfold cellI
 split
 ·rename_i h
  simp only [AV.inn,hk]
  split
  ·rfl
  ·rw [Efz d rows i p h];rfl
 ·exact hz _


set_option maxHeartbeats 8000000 in
theorem toIntSSF_ok (ls:List (List Int))(n:Nat)(hn:ls.length=n)(hb:n≤1048576∧∀ l∈ls,l.length≤1099511627776):BCall Tryd.prog 8 [.rows false (LL false ls) n] [] (fun r H'=>r=.own 0 n 1∧H'=(lsF ls).cellsG (· + 1)::(lsF ls).conts):=by
 subst hn
 obtain ⟨hb1,hb2⟩:=hb
 refine A5z (pins:=[]) (pin:=0) l8_eq rfl rfl rfl ?_
 have hll:=Baz false ls
 (repeat' (first
 | (first|refine Agz ?_|refine Aaz ?_)
 | ((first|refine Ahz ?_);simp (disch:=omega) only [push_cast,seval,Afz])
 | (refine Adz ⟨.inr rfl,[112],[],_,by decide,rfl,?_⟩;(try simp (disch:=omega) only [push_cast,seval,↓Aiz,↓Aez,↓List.map_cons,↓List.map_nil,Afz]))))
 refine D5z (fun i:Nat=>mkS [(0,.rows false (LL false ls) ls.length),(3,.own 112 ls.length 1),(4,.int .i64 i)] ((112,row ls.length (cellI 7 (lsF ls).rows (.val (.slice none 0 0)) i))::famR 7 (lsF ls).rows i)) (fun i=>i≤ls.length) (fun i=>ls.length-i) 0 (Nat.zero_le _) ?_ ?_
 ·refine SubW.of ?_
  have e:row ls.length (cellI 7 (lsF ls).rows (.val (.slice none 0 0)) 0)=List.replicate ls.length (.val (.slice none 0 0)):=by
   symm
   refine row_ext (by simp) fun p hp=>?_
   rw [List.getElem?_replicate,if_pos hp];rfl
  rw [e,famR_zero]
  have hzi:∀ P:Nat→Bool,innL P (List.replicate ls.length (AV.val (.slice none 0 0)))=true:=fun P=>innL_repS rfl
  generalize List.replicate ls.length (AV.val (.slice none 0 0))=Z at *
  (refine Sub.of_lists ?_ ?_ ?_ ?_ ?_<;>simp [Vw.mkS,Vw.lk,Vw.hk,AV.inn,innL,Akz,Ajz,Amz,-List.map_set,-List.getD_eq_getElem?_getD,Afz,LL,hzi])
 ·intro i hi
  by_cases hlt:i<ls.length
  ·obtain ⟨l,hli⟩:=mem_ltS hlt
   have hbb:=hb2 _ (List.mem_of_getElem? hli)
   have hd:=Drz false ls i hli
   have hil:i+1≤ls.length:=by omega
   have hwl:=C3z ls.length (cellI 7 (lsF ls).rows (.val (.slice none 0 0)) i)
   have hr:(lsF ls).rows i=l:=by simp [lsF,List.getD,hli]
   (repeat' ((first
 | (first|refine Agz ?_|refine Aaz ?_)
 | (first|refine Ahz ?_|refine Abz ?_|refine Alz ?_)
 | ((first|refine Acz (fun h=>?_) (fun h=>?_))<;>(try simp only [h])<;>(try simp only [bitvec_to_nat] at h)<;>(try simp only [h])<;>(first|(exfalso;omega)|(exfalso;simp_all;done)|skip))
 | (first|refine Aoz false ?_)
 | (first|(refine Apz (Euz _ _ ?_ ?_) ?_;(iterate 2 (exact sd));rintro _ _ ⟨rfl,rfl⟩)))<;>(try simp (disch:=omega) only [push_cast,seval,hd,hll,hil,hwl,Afz])))
   refine ⟨i+1,by omega,by omega,SubW.fam1 (a:=320) (d:=7) (i:=i) (id0:=112) (rows:=(lsF ls).rows) (c0:=(row ls.length (cellI 7 (lsF ls).rows (.val (.slice none 0 0)) i)).set i (.own 320 l.length 1)) ?_ ?_ ⟨by omega,by omega,by omega⟩ ?_ ?_ ?_ ?_ ?_⟩
   ·rw [hr];rfl
   ·rfl
   ·intro j hj
    simp only [hk,Gfz 7 j 112 (by omega),Gfz 7 j 320 (by omega),if_false]
    exact Efz _ _ _ _ hj
   ·rw [row_set,Cpz]
    refine Bkz fun p hp=>?_
    by_cases e:p=i
    ·subst e
     rw [Aqz]
     unfold cellI
     rw [if_pos (by omega),hr]
     simp only [AV.sw,swp_fst]
    ·rw [Asz _ _ _ _ e]
     unfold cellI
     by_cases hpi:p<i
     ·rw [if_pos hpi,if_pos (by omega)]
      exact swown _ _ _ _ _ (Ne.symm (fimne _ _ _ (by omega))) (fun e'=>e (Dpz e'))
     ·rw [if_neg hpi,if_neg (by omega)]
      rfl
   ·simp [lk,AV.sw,swL_LL,swp112]
   ·simp [AV.inn,Afz,hk]
   ·exact innL_row _ _ _ fun p _=>cellI_inn _ _ fun _=>rfl
  ·have e:i=ls.length:=by omega
   subst e
   (repeat' (first
 | (first|refine Agz ?_|refine Aaz ?_)
 | ((first|refine Ahz ?_|refine Abz ?_|refine Arz ?_);simp (disch:=omega) only [push_cast,seval,Afz])
 | ((first|refine Acz (fun h=>?_) (fun h=>?_))<;>(try simp only [h])<;>(try simp only [bitvec_to_nat] at h)<;>(try simp only [h])<;>(first|(exfalso;omega)|(exfalso;simp_all;done)|(simp (disch:=omega) only [push_cast,seval,Afz])|skip))))
   refine Adz ⟨.inr rfl,ret_famS (F:=lsF ls) (d:=7) rfl ?_ ?_ (by omega)⟩
   ·simp only [hk,if_true]
    congr 1
    exact Bkz fun p hp=>by unfold cellI;rw [if_pos hp];rfl
   ·intro j hj
    simp only [hk,Gfz 7 j 112 (by omega),if_false]
    exact Efz _ _ _ _ hj


set_option maxHeartbeats 8000000 in
theorem G5z (F:Fam)(n:Nat)(k:Int)(hF:F.C=n∧F.R=n∧∀ p,F.pat p=.inr p)(hk:0≤k∧k≤1125899906842624)(hb:n≤1048576∧∀ j,(F.rows j).length≤1048576):BCall Tryd.prog 14 [.own 0 n 1,.int .i64 k] (F.cellsG (· + 1)::F.conts) (fun r H'=>∃ G k',(k≤k'∧k'≤k+1099511627776)∧F.like G∧r=.int .i64 k'∧H'=G.cellsG (· + 1)::G.conts):=by
 obtain ⟨hC,hR,hpat⟩:=hF
 obtain ⟨hb2,hb3⟩:=hb
 have hb1:=hk
 clear hk
 refine A5z (pins:=List.range (F.R+1)) (pin:=F.R+1) l14_eq rfl (by simp [Byz]) (by simp [Byz]) ?_
 rw [initB_fam]
 generalize hc0:F.cellsG (· + 1)=c0
 have hcl:c0.length=n:=by rw [← hc0,Bpz,hC]
 have hat:∀ i,i<n→(c0.drop i).take 1=[.own (i+1) (F.rows i).length 1]:=fun i hi=>by
  rw [← hc0]
  unfold Fam.cellsG
  rw [row_1 _ _ _ (by omega)]
  simp [Fam.atG,hpat]
 generalize hRR:F.R=R at *
 have hret:∀ (rows:Nat→List Int),(∀ j,(rows j).length=(F.rows j).length)→∃ G:Fam,F.like G∧G.rows=rows∧G.R=R∧c0=G.cellsG (· + 1):=fun rows hl=>by
  refine ⟨⟨F.C,F.R,F.pat,rows,F.ok,F.cell⟩,⟨rfl,rfl,fun j _=>hl j⟩,rfl,hRR,?_⟩
  rw [← hc0]
  unfold Fam.cellsG Fam.atG
  simp only [hl]
 (repeat' (first
 | (first|refine Agz ?_|refine Aaz ?_)
 | ((first|refine Ahz ?_);simp (disch:=omega) only [push_cast,seval])))
 refine D5z (fun x:Nat×Int×(Nat→List Int)=>mkS [(0,.own 0 n 1),(1,.int .i64 x.2.1),(5,.int .i64 x.1)] ((0,c0)::pinR x.2.2 R)) (fun x=>x.1≤n∧(k≤x.2.1∧x.2.1≤k+x.1*1048576)∧∀ j,(x.2.2 j).length=(F.rows j).length) (fun x=>n-x.1) (0,k,F.rows) ⟨Nat.zero_le _,by simp,fun _=>rfl⟩ ?_ ?_
 ·refine SubW.slots ?_
  simp [lk]
 ·rintro ⟨i,kk,rows⟩ ⟨hi,hkk,hl⟩
  simp only at hi hkk hl ⊢
  by_cases hlt:i<n
  ·have hd:=hat i hlt
   have hkp:=Eez rows R i (by omega)
   have hli:=hl i
   have hbi:=hb3 i
   generalize hLL:(F.rows i).length=L at *
   (repeat' ((first
 | (first|refine Agz ?_|refine Aaz ?_)
 | (first|refine Ahz ?_|refine Abz ?_|refine Alz ?_)
 | ((first|refine Acz (fun h=>?_) (fun h=>?_))<;>(try simp only [h])<;>(try simp only [bitvec_to_nat] at h)<;>(try simp only [h])<;>(first|(exfalso;omega)|(exfalso;simp_all;done)|skip))
 | (first|((with_reducible refine B7z (f:=15) [(i+1)] false ?_);simp (disch:=omega) only [push_cast,seval,hd,hkp,hli,hcl,Dvz,Dzz];(refine Glz (id:=(i+1)) (Dkz _ _ _ ?_ ?_) (by (simp (disch:=omega) only [push_cast,seval,hd,hkp,hli,hcl,Dvz,Dzz])<;>rfl) ?_;(iterate 2 (exact sd));rintro _ _ ⟨rfl,rfl⟩))))<;>(try simp (disch:=omega) only [push_cast,seval,hd,hkp,hli,hcl,Dvz,Dzz])))
   refine ⟨(i+1,kk+L,upd rows i (upFrom kk L)),⟨by simp only;omega,by simp only;omega,fun j=>?_⟩,by simp only;omega,?_⟩
   ·simp only
    by_cases e:j=i
    ·subst e;rw [Aqz,hLL];simp [upFrom]
    ·rw [Asz _ _ _ _ e];exact hl j
   ·refine SubW.heq (fun id=>pinR_upd (by omega) id) (SubW.slots ?_)
    simp [lk]
  ·have e:i=n:=by omega
   subst e
   (repeat' (first
 | (first|refine Agz ?_|refine Aaz ?_)
 | ((first|refine Ahz ?_|refine Abz ?_|refine Arz ?_);simp (disch:=omega) only [push_cast,seval])
 | ((first|refine Acz (fun h=>?_) (fun h=>?_))<;>(try simp only [h])<;>(try simp only [bitvec_to_nat] at h)<;>(try simp only [h])<;>(first|(exfalso;omega)|(exfalso;simp_all;done)|(simp (disch:=omega) only [push_cast,seval])|skip))))
   refine Adz ⟨.inr rfl,ret_pinS (fun _=>rfl) (by omega) (hret rows hl)⟩

end Go.Proofs.YtjmcjjbhkiebkaaDoor
