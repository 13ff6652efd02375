/- Texts of this verifier. -/
import Derived.Test.YtapccmfnmiopoaaGreatCB4
import Derived.Test.YtapccmfnmiopoaaGreatCM1
import Derived.Test.YtapccmfnmiopoaaGreatCW3
set_option maxHeartbeats 4000000
set_option linter.unusedSimpArgs false
set_option linter.unusedVariables false
set_option maxRecDepth 4000
namespace Go.Proofs.YtapccmfnmiopoaaGreat
open VwM Vw Go

theorem Giz {P:Program}{f:Nat}{args:List AV}{v:Bool}{b:Int}{sh st:List Int}(h:BCall P f args [] (MV v b sh st))(h1:sh.length≤1000)(h2:st.length≤1000) :
  BCall P f args [] (fun r H'=>∃ ok b' sh' st',(sh'.length≤1000∧st'.length≤1000)∧r=.tup [.agg [.int .i64 b',.own 0 sh'.length 1,.own 1 st'.length 1],.bool ok]∧H'=[IL sh',IL st']) :=
 h.mono fun r H' ⟨e1,e2⟩=>⟨v,MVB v b,MVL v sh,MVL v st,⟨Nat.le_trans (MVL_le v sh) h1,Nat.le_trans (MVL_le v st) h2⟩,e1,e2⟩
abbrev W4 (b:Int)(sh st:List Int)(n m:Nat):AV:=.agg [.int .i64 b,.rows false (IL sh) n,.rows false (IL st) m]
abbrev RelV:AV→List (List AV)→Prop:=fun r H'=>∃ ok b' sh' st',(sh'.length≤1000∧st'.length≤1000)∧r=.tup [.agg [.int .i64 b',.own 0 sh'.length 1,.own 1 st'.length 1],.bool ok]∧H'=[IL sh',IL st']


theorem H3z (b:Int)(sh st:List Int)(n m:Nat)(d f t w:Int)(hf ht:Bool)(hn:sh.length=n)(hm:st.length=m)(hb:n≤100∧m=n):BCall Tryz.prog 82 [W4 b sh st n m,.int .i64 d,slc f t w hf ht] [] RelV :=
 Giz (Hjz b sh st n m d f t w hf ht hn hm (by omega)) (by rw [Evz];omega) (by rw [Euz (by omega)];omega)


theorem Jqz (b:Int)(sh st:List Int)(n m:Nat)(d:Int)(hn:sh.length=n)(hm:st.length=m)(hb:n≤100∧m=n):BCall Tryz.prog 84 [W4 b sh st n m,.int .i64 d] [] RelV :=
 Giz (sFlipDim_ok b sh st n m d hn hm (by omega)) (by rw [Evz];omega) (by rw [Euz (by omega)];omega)


theorem relWin_ok (b:Int)(sh st:List Int)(n m:Nat)(d s:Int)(hn:sh.length=n)(hm:st.length=m)(hb:n≤100∧m=n):BCall Tryz.prog 88 [W4 b sh st n m,.int .i64 d,.int .i64 s] [] RelV :=
 Giz (Koz b sh st n m d s hn hm (by omega)) (by simp [winSh];omega) (by simp [winSt];omega)


theorem Gqz (xs:List Int)(k:Nat)(x:Int):(ins xs k x).length≤xs.length+1:=by simp [ins];omega


theorem relAdd_ok (b:Int)(sh st:List Int)(n m:Nat)(d:Int)(hn:sh.length=n)(hm:st.length=m)(hb:n≤100∧m=n):BCall Tryz.prog 89 [W4 b sh st n m,.int .i64 d] [] RelV :=
 Giz (sAddDim_ok b sh st n m d hn hm (by omega)) (by have:=Gqz sh d.toNat 1;omega) (by have:=Gqz st d.toNat 0;omega)


theorem Jpz (b:Int)(sh st order:List Int)(n m p:Nat)(hn:sh.length=n)(hm:st.length=m)(hp:order.length=p)(hb:(n≤100∧m=n)∧p≤1000):BCall Tryz.prog 85 [W4 b sh st n m,.rows false (IL order) p] [] RelV :=
 Giz (Hyz b sh st order n m p hn hm hp (by omega)) (by rw [A3z];omega) (by rw [A3z];omega)


set_option maxHeartbeats 40000000 in
theorem goodView_ok (bs:List Int)(p:Int)(hb:okB bs)(hp:0≤p∧p≤800000):BCall Tryz.prog 60 [.ref 0 2 0] [RD bs p] (fun r H'=>∃ b sh st q,(st.length=sh.length∧sh.length≤4∧good4 sh)∧(p≤q∧q≤p+200)∧r=.agg [.int .i64 b,.own 1 sh.length 1,.own 2 st.length 1]∧H'=[RD bs q,IL sh,IL st]):=by
 refine Awz (pins:=[0]) (pin:=1) l60_eq rfl rfl rfl ?_
 (repeat' ((first
 | (first|refine Afz ?_|refine Aaz ?_)
 | (first|refine Agz ?_)
 | (first|((with_reducible refine A6z (f:=81) [0] true ?_);simp (disch:=omega) only [push_cast,seval];(refine Dqz (id:=0) (goodShape_ok _ _ ?_ ?_) (by (simp (disch:=omega) only [push_cast,seval])<;>rfl) ?_;(iterate 2 (exact sd));rintro _ _ ⟨xs,q,⟨hxs,hxl⟩,hq,rfl,rfl⟩))|((with_reducible refine A6z (f:=59) [0] true ?_);simp (disch:=omega) only [push_cast,seval];(refine Dqz (id:=0) (Dyz _ _ _ ?_ ?_) (by (simp (disch:=omega) only [push_cast,seval])<;>rfl) ?_;(iterate 2 (exact sd));rintro _ _ ⟨x,hx0,hx1,rfl,rfl⟩))|((with_reducible refine A6z (f:=58) (args:=[Operand.tmp 11,Operand.tmp 14]) [0,224] true ?_);simp (disch:=omega) only [push_cast,seval];(refine Ddz (id:=0) (id':=224) (by decide) (Egz _ _ _ _ ?_ ?_ ?_ ?_ ?_) (by (simp (disch:=omega) only [push_cast,seval])<;>rfl) (by (simp (disch:=omega) only [push_cast,seval])<;>rfl) ?_;(iterate 5 (exact sd));rintro _ _ ⟨x,hx,hx0,rfl,rfl⟩)))
 | (first|refine Anz false ?_)
 | (first|(refine Akz (sNewView_ok _ _ ?_ ?_) ?_;(iterate 2 (exact sd));rintro _ _ ⟨rfl,rfl⟩))
 | (refine Acz ⟨.inr rfl,[160,161],[],_,by decide,rfl,?_⟩;(try simp (disch:=omega) only [push_cast,seval,↓Adz,↓Abz,↓List.map_cons,↓List.map_nil])))<;>(try simp (disch:=omega) only [push_cast,seval])))
 rename_i y10 hy10 hy11 yb hyb
 have hlw:(if vSh xs=true then newSt xs else []).length=(if vSh xs=true then xs else []).length:=by split<;>simp [newSt_length]
 have hlw2:good4 (if vSh xs=true then xs else []):=by
  split
  ·rename_i hvs;exact (A5z hvs).1
  ·exact ⟨fun x hx=>(by simp at hx),by simp⟩
 refine Exz (fun y:Int×List Int×List Int×Int×Int=>mkS [(0,.ref 0 2 0),(2,.ref 32 3 0),(3,.ref 48 3 0),(4,.int .i64 y.2.2.2.1)] [(0,RD bs y.2.2.2.2),(32,[.int .i64 0,.val (.slice none 0 0),.val (.slice none 0 0)]),(48,[.int .i64 y.1,.own 160 y.2.1.length 1,.own 161 y.2.2.1.length 1]),(160,IL y.2.1),(161,IL y.2.2.1)])
  (fun y=>y.2.2.1.length=y.2.1.length∧good4 y.2.1∧0≤y.2.2.2.1∧y.2.2.2.1≤4∧p≤y.2.2.2.2∧y.2.2.2.2+40*y.2.2.2.1≤p+200) (fun y=>y.2.2.2.1.toNat) (yb,(if vSh xs=true then xs else []),(if vSh xs=true then newSt xs else []),x,q+1+1+1) ⟨hlw,hlw2,by simp only;omega⟩ ?_ ?_
 ·refine SubW.of ?_
  (refine Sub.of_lists ?_ ?_ ?_ ?_ ?_<;>simp [Vw.mkS,Vw.lk,Vw.hk,AV.inn,innL,Ajz,Ahz,Alz,-List.map_set,-List.getD_eq_getElem?_getD])
 ·clear hx0 hx1 hlw hlw2 hx hyb hy10 hy11 hxs hxl hq
  rintro ⟨b,sh,st,n,q⟩ ⟨hl,hl4,hn0,hn4,hpq,hq⟩
  simp only at hl hl4 hn0 hn4 hpq hq ⊢
  have hl5:=hl4.2
  have hm:sh.length≤100∧st.length=sh.length:=by omega
  by_cases hlt:n > 0
  ·by_cases hz:sh.length > 0
   ·have hz':(sh.length:Int) > 0:=by omega
    (repeat' ((first
 | (first|refine Afz ?_|refine Aaz ?_)
 | (first|refine Agz ?_|refine Cgz (mid:=l60r10a) (post:=l60r10b) [0,96] Bfz (by decide) ?_|refine Cgz (mid:=l60r14a) (post:=l60r14b) [96] Bfz (by decide) ?_|refine Cgz (mid:=l60r16a) (post:=l60r16b) [0,96] Bfz (by decide) ?_|refine Cgz (mid:=l60r20a) (post:=l60r20b) [0] Bfz (by decide) ?_|refine Aez ?_|refine Aoz ?_)
 | ((first|refine Aiz (fun h=>?_) (fun h=>?_)|refine Bgz (fun h=>?_) (fun h=>?_))<;>(try simp only [h])<;>(try simp only [bitvec_to_nat] at h)<;>(try simp only [h])<;>(first|(exfalso;omega)|(exfalso;simp_all;done)|skip))
 | (first|((with_reducible refine A6z (f:=59) [0] true ?_);simp (disch:=omega) only [push_cast,seval,hlt,hz',Ayz,List.length_set];(refine Dqz (id:=0) (Dyz _ _ _ ?_ ?_) (by (simp (disch:=omega) only [push_cast,seval,hlt,hz',Ayz,List.length_set])<;>rfl) ?_;(iterate 2 (exact sd));rintro _ _ ⟨x,hx0,hx1,rfl,rfl⟩))|((with_reducible refine Edz (f:=59) [0] true ?_);simp (disch:=omega) only [push_cast,seval,hlt,hz',Ayz,List.length_set];(refine H4z (id:=0) (Dyz _ _ _ ?_ ?_) (by (simp (disch:=omega) only [push_cast,seval,hlt,hz',Ayz,List.length_set])<;>rfl) (by decide) ⟨_,_,0,by omega,Or.inr (Or.inr rfl),rfl,rfl⟩ ?_;(iterate 2 (exact sd));rintro _ _ ⟨x,hx0,hx1,rfl,rfl⟩))|((with_reducible refine Edz (f:=58) [0] true ?_);simp (disch:=omega) only [push_cast,seval,hlt,hz',Ayz,List.length_set];(refine H4z (id:=0) (oneR_ok _ _ _ _ ?_ ?_ ?_ ?_ ?_) (by (simp (disch:=omega) only [push_cast,seval,hlt,hz',Ayz,List.length_set])<;>rfl) (by decide) (by simp only [E2z,G0z];exact ⟨_,_,_,List.mem_cons_self,by omega,rfl,rfl⟩) ?_;(iterate 5 (exact sd));rintro _ _ ⟨x,hx,hx0,rfl,rfl⟩))|((with_reducible refine Edz (f:=83) [0] true ?_);simp (disch:=omega) only [push_cast,seval,hlt,hz',Ayz,List.length_set];(refine H4z (id:=0) (someSlice_ok _ _ ?_ ?_) (by (simp (disch:=omega) only [push_cast,seval,hlt,hz',Ayz,List.length_set])<;>rfl) (by decide) ⟨_,_,0,0,0,false,false,_,by omega,⟨Int.le_refl _,by omega⟩,rfl,rfl⟩ ?_;(iterate 2 (exact sd));rintro _ _ ⟨f,t,w,hf,ht,q,hs,hq,rfl,rfl⟩)))
 | (first|refine Anz false ?_|refine A7z false ?_)
 | (first|((first|refine Akz (H3z _ _ _ _ _ _ _ _ _ _ _ ?_ ?_ ?_) ?_|refine Asz (H3z _ _ _ _ _ _ _ _ _ _ _ ?_ ?_ ?_) ⟨_,_,true,0,[],[],⟨by simp,by simp⟩,rfl,rfl⟩ ?_);(iterate 3 (exact sd));rintro _ _ ⟨ok,b',sh',st',⟨hl1,hl2⟩,rfl,rfl⟩)|((first|refine Akz (Jqz _ _ _ _ _ _ ?_ ?_ ?_) ?_|refine Asz (Jqz _ _ _ _ _ _ ?_ ?_ ?_) ⟨_,_,true,0,[],[],⟨by simp,by simp⟩,rfl,rfl⟩ ?_);(iterate 3 (exact sd));rintro _ _ ⟨ok,b',sh',st',⟨hl1,hl2⟩,rfl,rfl⟩)|((first|refine Akz (supTo_ok _ ?_) ?_|refine Asz (Apz (Dbz (supTo_ok _ ?_))) ⟨_,_,rfl,rfl⟩ ?_);(exact sd);rintro _ _ ⟨rfl,rfl⟩)|((first|refine Akz (Hhz _ _ ?_ ?_) ?_|refine Asz (Apz (Dbz (Hhz _ _ ?_ ?_))) ⟨_,_,rfl,rfl⟩ ?_);(iterate 2 (exact sd));rintro _ _ ⟨rfl,rfl⟩)|((first|refine Akz (Jpz _ _ _ _ _ _ _ ?_ ?_ ?_ ?_) ?_|refine Asz (Jpz _ _ _ _ _ _ _ ?_ ?_ ?_ ?_) ⟨_,_,true,0,[],[],⟨by simp,by simp⟩,rfl,rfl⟩ ?_);(iterate 4 (exact sd));rintro _ _ ⟨ok,b',sh',st',⟨hl1,hl2⟩,rfl,rfl⟩)|((first|refine Akz (relWin_ok _ _ _ _ _ _ _ ?_ ?_ ?_) ?_|refine Asz (relWin_ok _ _ _ _ _ _ _ ?_ ?_ ?_) ⟨_,_,true,0,[],[],⟨by simp,by simp⟩,rfl,rfl⟩ ?_);(iterate 3 (exact sd));rintro _ _ ⟨ok,b',sh',st',⟨hl1,hl2⟩,rfl,rfl⟩)|((first|refine Akz (relAdd_ok _ _ _ _ _ _ ?_ ?_ ?_) ?_|refine Asz (relAdd_ok _ _ _ _ _ _ ?_ ?_ ?_) ⟨_,_,true,0,[],[],⟨by simp,by simp⟩,rfl,rfl⟩ ?_);(iterate 3 (exact sd));rintro _ _ ⟨ok,b',sh',st',⟨hl1,hl2⟩,rfl,rfl⟩)|((first|refine Akz (Blz _ _ _ _ _ ?_ ?_ ?_) ?_|refine Asz (Blz _ _ _ _ _ ?_ ?_ ?_) ⟨_,_,rfl,rfl⟩ ?_);(iterate 3 (exact sd));rintro _ _ ⟨rfl,rfl⟩)|((first|refine Akz (Apz (Azz _ _ _ _ _ ?_ ?_ ?_)) ?_|refine Asz (Apz (Azz _ _ _ _ _ ?_ ?_ ?_)) ⟨_,_,rfl,rfl⟩ ?_);(iterate 3 (exact sd));rintro _ _ ⟨rfl,rfl⟩))
 | (refine Acz ⟨.inr rfl,[160,161],[],_,by decide,rfl,?_⟩;(try simp (disch:=omega) only [push_cast,seval,↓Adz,↓Abz,↓List.map_cons,↓List.map_nil,hlt,hz',Ayz,List.length_set])))<;>(try simp (disch:=omega) only [push_cast,seval,hlt,hz',Ayz,List.length_set])))
    all_goals (first
     | (refine ⟨(b,sh,st,n-1,q),⟨by assumption,by assumption,by simp only;omega⟩,by simp only;omega,SubW.of ?_⟩;(focus ((refine Sub.of_lists ?_ ?_ ?_ ?_ ?_<;>simp [Vw.mkS,Vw.lk,Vw.hk,AV.inn,innL,Ajz,Ahz,Alz,-List.map_set,-List.getD_eq_getElem?_getD]);done)))
     | (refine ⟨(b,sh,st,n-1,q+1+1),⟨by assumption,by assumption,by simp only;omega⟩,by simp only;omega,SubW.of ?_⟩;(focus ((refine Sub.of_lists ?_ ?_ ?_ ?_ ?_<;>simp [Vw.mkS,Vw.lk,Vw.hk,AV.inn,innL,Ajz,Ahz,Alz,-List.map_set,-List.getD_eq_getElem?_getD]);done)))
     | (refine ⟨(b,sh,st,n-1,q+1+1+1),⟨by assumption,by assumption,by simp only;omega⟩,by simp only;omega,SubW.of ?_⟩;(focus ((refine Sub.of_lists ?_ ?_ ?_ ?_ ?_<;>simp [Vw.mkS,Vw.lk,Vw.hk,AV.inn,innL,Ajz,Ahz,Alz,-List.map_set,-List.getD_eq_getElem?_getD]);done)))
     | (refine ⟨(b,sh,st,n-1,q+1),⟨by assumption,by assumption,by simp only;omega⟩,by simp only;omega,SubW.of ?_⟩;(focus ((refine Sub.of_lists ?_ ?_ ?_ ?_ ?_<;>simp [Vw.mkS,Vw.lk,Vw.hk,AV.inn,innL,Ajz,Ahz,Alz,-List.map_set,-List.getD_eq_getElem?_getD]);done)))
     | (have hv9:=A4z h;have hv8:=hv9.1.1.1;have hv7:=hv9.2;(try simp only [List.length_set] at hv7);refine ⟨(b',sh',st',n-1,q),⟨by simp only [List.length_set];omega,hv8,by simp only;omega⟩,by simp only;omega,SubW.mk2 848 160 849 161 (by omega) ?_⟩;simp only [List.map_cons,List.map_nil,AV.sw,swL,Bmz,swp,↓reduceIte,Nat.reduceEqDiff];(focus ((refine Sub.of_lists ?_ ?_ ?_ ?_ ?_<;>simp [Vw.mkS,Vw.lk,Vw.hk,AV.inn,innL,Ajz,Ahz,Alz,-List.map_set,-List.getD_eq_getElem?_getD]);done)))
     | (have hv9:=A4z h;have hv8:=hv9.1.1.1;have hv7:=hv9.2;(try simp only [List.length_set] at hv7);refine ⟨(b',sh',st',n-1,q+1+1),⟨by simp only [List.length_set];omega,hv8,by simp only;omega⟩,by simp only;omega,SubW.mk2 848 160 849 161 (by omega) ?_⟩;simp only [List.map_cons,List.map_nil,AV.sw,swL,Bmz,swp,↓reduceIte,Nat.reduceEqDiff];(focus ((refine Sub.of_lists ?_ ?_ ?_ ?_ ?_<;>simp [Vw.mkS,Vw.lk,Vw.hk,AV.inn,innL,Ajz,Ahz,Alz,-List.map_set,-List.getD_eq_getElem?_getD]);done)))
     | (have hv9:=A4z h;have hv8:=hv9.1.1.1;have hv7:=hv9.2;(try simp only [List.length_set] at hv7);refine ⟨(b',sh',st',n-1,q+1+1+1),⟨by simp only [List.length_set];omega,hv8,by simp only;omega⟩,by simp only;omega,SubW.mk2 848 160 849 161 (by omega) ?_⟩;simp only [List.map_cons,List.map_nil,AV.sw,swL,Bmz,swp,↓reduceIte,Nat.reduceEqDiff];(focus ((refine Sub.of_lists ?_ ?_ ?_ ?_ ?_<;>simp [Vw.mkS,Vw.lk,Vw.hk,AV.inn,innL,Ajz,Ahz,Alz,-List.map_set,-List.getD_eq_getElem?_getD]);done)))
     | (have hv9:=A4z h;have hv8:=hv9.1.1.1;have hv7:=hv9.2;(try simp only [List.length_set] at hv7);refine ⟨(b',sh',st',n-1,q+1),⟨by simp only [List.length_set];omega,hv8,by simp only;omega⟩,by simp only;omega,SubW.mk2 848 160 849 161 (by omega) ?_⟩;simp only [List.map_cons,List.map_nil,AV.sw,swL,Bmz,swp,↓reduceIte,Nat.reduceEqDiff];(focus ((refine Sub.of_lists ?_ ?_ ?_ ?_ ?_<;>simp [Vw.mkS,Vw.lk,Vw.hk,AV.inn,innL,Ajz,Ahz,Alz,-List.map_set,-List.getD_eq_getElem?_getD]);done)))
     | (have hv9:=A4z h;have hv8:=hv9.1.1.1;have hv7:=hv9.2;(try simp only [List.length_set] at hv7);refine ⟨(b',sh',st',n-1,q),⟨by simp only [List.length_set];omega,hv8,by simp only;omega⟩,by simp only;omega,SubW.mk2 976 160 977 161 (by omega) ?_⟩;simp only [List.map_cons,List.map_nil,AV.sw,swL,Bmz,swp,↓reduceIte,Nat.reduceEqDiff];(focus ((refine Sub.of_lists ?_ ?_ ?_ ?_ ?_<;>simp [Vw.mkS,Vw.lk,Vw.hk,AV.inn,innL,Ajz,Ahz,Alz,-List.map_set,-List.getD_eq_getElem?_getD]);done)))
     | (have hv9:=A4z h;have hv8:=hv9.1.1.1;have hv7:=hv9.2;(try simp only [List.length_set] at hv7);refine ⟨(b',sh',st',n-1,q+1+1),⟨by simp only [List.length_set];omega,hv8,by simp only;omega⟩,by simp only;omega,SubW.mk2 976 160 977 161 (by omega) ?_⟩;simp only [List.map_cons,List.map_nil,AV.sw,swL,Bmz,swp,↓reduceIte,Nat.reduceEqDiff];(focus ((refine Sub.of_lists ?_ ?_ ?_ ?_ ?_<;>simp [Vw.mkS,Vw.lk,Vw.hk,AV.inn,innL,Ajz,Ahz,Alz,-List.map_set,-List.getD_eq_getElem?_getD]);done)))
     | (have hv9:=A4z h;have hv8:=hv9.1.1.1;have hv7:=hv9.2;(try simp only [List.length_set] at hv7);refine ⟨(b',sh',st',n-1,q+1+1+1),⟨by simp only [List.length_set];omega,hv8,by simp only;omega⟩,by simp only;omega,SubW.mk2 976 160 977 161 (by omega) ?_⟩;simp only [List.map_cons,List.map_nil,AV.sw,swL,Bmz,swp,↓reduceIte,Nat.reduceEqDiff];(focus ((refine Sub.of_lists ?_ ?_ ?_ ?_ ?_<;>simp [Vw.mkS,Vw.lk,Vw.hk,AV.inn,innL,Ajz,Ahz,Alz,-List.map_set,-List.getD_eq_getElem?_getD]);done)))
     | (have hv9:=A4z h;have hv8:=hv9.1.1.1;have hv7:=hv9.2;(try simp only [List.length_set] at hv7);refine ⟨(b',sh',st',n-1,q+1),⟨by simp only [List.length_set];omega,hv8,by simp only;omega⟩,by simp only;omega,SubW.mk2 976 160 977 161 (by omega) ?_⟩;simp only [List.map_cons,List.map_nil,AV.sw,swL,Bmz,swp,↓reduceIte,Nat.reduceEqDiff];(focus ((refine Sub.of_lists ?_ ?_ ?_ ?_ ?_<;>simp [Vw.mkS,Vw.lk,Vw.hk,AV.inn,innL,Ajz,Ahz,Alz,-List.map_set,-List.getD_eq_getElem?_getD]);done)))
     | (have hv9:=A4z h;have hv8:=hv9.1.1.1;have hv7:=hv9.2;(try simp only [List.length_set] at hv7);refine ⟨(b',sh',st',n-1,q),⟨by simp only [List.length_set];omega,hv8,by simp only;omega⟩,by simp only;omega,SubW.mk2 1168 160 1169 161 (by omega) ?_⟩;simp only [List.map_cons,List.map_nil,AV.sw,swL,Bmz,swp,↓reduceIte,Nat.reduceEqDiff];(focus ((refine Sub.of_lists ?_ ?_ ?_ ?_ ?_<;>simp [Vw.mkS,Vw.lk,Vw.hk,AV.inn,innL,Ajz,Ahz,Alz,-List.map_set,-List.getD_eq_getElem?_getD]);done)))
     | (have hv9:=A4z h;have hv8:=hv9.1.1.1;have hv7:=hv9.2;(try simp only [List.length_set] at hv7);refine ⟨(b',sh',st',n-1,q+1+1),⟨by simp only [List.length_set];omega,hv8,by simp only;omega⟩,by simp only;omega,SubW.mk2 1168 160 1169 161 (by omega) ?_⟩;simp only [List.map_cons,List.map_nil,AV.sw,swL,Bmz,swp,↓reduceIte,Nat.reduceEqDiff];(focus ((refine Sub.of_lists ?_ ?_ ?_ ?_ ?_<;>simp [Vw.mkS,Vw.lk,Vw.hk,AV.inn,innL,Ajz,Ahz,Alz,-List.map_set,-List.getD_eq_getElem?_getD]);done)))
     | (have hv9:=A4z h;have hv8:=hv9.1.1.1;have hv7:=hv9.2;(try simp only [List.length_set] at hv7);refine ⟨(b',sh',st',n-1,q+1+1+1),⟨by simp only [List.length_set];omega,hv8,by simp only;omega⟩,by simp only;omega,SubW.mk2 1168 160 1169 161 (by omega) ?_⟩;simp only [List.map_cons,List.map_nil,AV.sw,swL,Bmz,swp,↓reduceIte,Nat.reduceEqDiff];(focus ((refine Sub.of_lists ?_ ?_ ?_ ?_ ?_<;>simp [Vw.mkS,Vw.lk,Vw.hk,AV.inn,innL,Ajz,Ahz,Alz,-List.map_set,-List.getD_eq_getElem?_getD]);done)))
     | (have hv9:=A4z h;have hv8:=hv9.1.1.1;have hv7:=hv9.2;(try simp only [List.length_set] at hv7);refine ⟨(b',sh',st',n-1,q+1),⟨by simp only [List.length_set];omega,hv8,by simp only;omega⟩,by simp only;omega,SubW.mk2 1168 160 1169 161 (by omega) ?_⟩;simp only [List.map_cons,List.map_nil,AV.sw,swL,Bmz,swp,↓reduceIte,Nat.reduceEqDiff];(focus ((refine Sub.of_lists ?_ ?_ ?_ ?_ ?_<;>simp [Vw.mkS,Vw.lk,Vw.hk,AV.inn,innL,Ajz,Ahz,Alz,-List.map_set,-List.getD_eq_getElem?_getD]);done)))
     | (have hv9:=A4z h;have hv8:=hv9.1.1.1;have hv7:=hv9.2;(try simp only [List.length_set] at hv7);refine ⟨(b',sh',st',n-1,q),⟨by simp only [List.length_set];omega,hv8,by simp only;omega⟩,by simp only;omega,SubW.mk2 1344 160 1345 161 (by omega) ?_⟩;simp only [List.map_cons,List.map_nil,AV.sw,swL,Bmz,swp,↓reduceIte,Nat.reduceEqDiff];(focus ((refine Sub.of_lists ?_ ?_ ?_ ?_ ?_<;>simp [Vw.mkS,Vw.lk,Vw.hk,AV.inn,innL,Ajz,Ahz,Alz,-List.map_set,-List.getD_eq_getElem?_getD]);done)))
     | (have hv9:=A4z h;have hv8:=hv9.1.1.1;have hv7:=hv9.2;(try simp only [List.length_set] at hv7);refine ⟨(b',sh',st',n-1,q+1+1),⟨by simp only [List.length_set];omega,hv8,by simp only;omega⟩,by simp only;omega,SubW.mk2 1344 160 1345 161 (by omega) ?_⟩;simp only [List.map_cons,List.map_nil,AV.sw,swL,Bmz,swp,↓reduceIte,Nat.reduceEqDiff];(focus ((refine Sub.of_lists ?_ ?_ ?_ ?_ ?_<;>simp [Vw.mkS,Vw.lk,Vw.hk,AV.inn,innL,Ajz,Ahz,Alz,-List.map_set,-List.getD_eq_getElem?_getD]);done)))
     | (have hv9:=A4z h;have hv8:=hv9.1.1.1;have hv7:=hv9.2;(try simp only [List.length_set] at hv7);refine ⟨(b',sh',st',n-1,q+1+1+1),⟨by simp only [List.length_set];omega,hv8,by simp only;omega⟩,by simp only;omega,SubW.mk2 1344 160 1345 161 (by omega) ?_⟩;simp only [List.map_cons,List.map_nil,AV.sw,swL,Bmz,swp,↓reduceIte,Nat.reduceEqDiff];(focus ((refine Sub.of_lists ?_ ?_ ?_ ?_ ?_<;>simp [Vw.mkS,Vw.lk,Vw.hk,AV.inn,innL,Ajz,Ahz,Alz,-List.map_set,-List.getD_eq_getElem?_getD]);done)))
     | (have hv9:=A4z h;have hv8:=hv9.1.1.1;have hv7:=hv9.2;(try simp only [List.length_set] at hv7);refine ⟨(b',sh',st',n-1,q+1),⟨by simp only [List.length_set];omega,hv8,by simp only;omega⟩,by simp only;omega,SubW.mk2 1344 160 1345 161 (by omega) ?_⟩;simp only [List.map_cons,List.map_nil,AV.sw,swL,Bmz,swp,↓reduceIte,Nat.reduceEqDiff];(focus ((refine Sub.of_lists ?_ ?_ ?_ ?_ ?_<;>simp [Vw.mkS,Vw.lk,Vw.hk,AV.inn,innL,Ajz,Ahz,Alz,-List.map_set,-List.getD_eq_getElem?_getD]);done)))
     | (have hv9:=A4z h;have hv8:=hv9.1.1.1;have hv7:=hv9.2;(try simp only [List.length_set] at hv7);refine ⟨(b',sh',st',n-1,q),⟨by simp only [List.length_set];omega,hv8,by simp only;omega⟩,by simp only;omega,SubW.mk2 1472 160 1473 161 (by omega) ?_⟩;simp only [List.map_cons,List.map_nil,AV.sw,swL,Bmz,swp,↓reduceIte,Nat.reduceEqDiff];(focus ((refine Sub.of_lists ?_ ?_ ?_ ?_ ?_<;>simp [Vw.mkS,Vw.lk,Vw.hk,AV.inn,innL,Ajz,Ahz,Alz,-List.map_set,-List.getD_eq_getElem?_getD]);done)))
     | (have hv9:=A4z h;have hv8:=hv9.1.1.1;have hv7:=hv9.2;(try simp only [List.length_set] at hv7);refine ⟨(b',sh',st',n-1,q+1+1),⟨by simp only [List.length_set];omega,hv8,by simp only;omega⟩,by simp only;omega,SubW.mk2 1472 160 1473 161 (by omega) ?_⟩;simp only [List.map_cons,List.map_nil,AV.sw,swL,Bmz,swp,↓reduceIte,Nat.reduceEqDiff];(focus ((refine Sub.of_lists ?_ ?_ ?_ ?_ ?_<;>simp [Vw.mkS,Vw.lk,Vw.hk,AV.inn,innL,Ajz,Ahz,Alz,-List.map_set,-List.getD_eq_getElem?_getD]);done)))
     | (have hv9:=A4z h;have hv8:=hv9.1.1.1;have hv7:=hv9.2;(try simp only [List.length_set] at hv7);refine ⟨(b',sh',st',n-1,q+1+1+1),⟨by simp only [List.length_set];omega,hv8,by simp only;omega⟩,by simp only;omega,SubW.mk2 1472 160 1473 161 (by omega) ?_⟩;simp only [List.map_cons,List.map_nil,AV.sw,swL,Bmz,swp,↓reduceIte,Nat.reduceEqDiff];(focus ((refine Sub.of_lists ?_ ?_ ?_ ?_ ?_<;>simp [Vw.mkS,Vw.lk,Vw.hk,AV.inn,innL,Ajz,Ahz,Alz,-List.map_set,-List.getD_eq_getElem?_getD]);done)))
     | (have hv9:=A4z h;have hv8:=hv9.1.1.1;have hv7:=hv9.2;(try simp only [List.length_set] at hv7);refine ⟨(b',sh',st',n-1,q+1),⟨by simp only [List.length_set];omega,hv8,by simp only;omega⟩,by simp only;omega,SubW.mk2 1472 160 1473 161 (by omega) ?_⟩;simp only [List.map_cons,List.map_nil,AV.sw,swL,Bmz,swp,↓reduceIte,Nat.reduceEqDiff];(focus ((refine Sub.of_lists ?_ ?_ ?_ ?_ ?_<;>simp [Vw.mkS,Vw.lk,Vw.hk,AV.inn,innL,Ajz,Ahz,Alz,-List.map_set,-List.getD_eq_getElem?_getD]);done)))
     | (rename_i d _ _ _ _ _ _ _ _ _;have hv9:=A4z h;have hv8:=hv9.1.1.1;have hv7:=hv9.2;(try simp only [List.length_set] at hv7);refine ⟨(b,sh,st.set d.toNat x,n-1,q+1+1+1),⟨by simp only [List.length_set];omega,hv8,by simp only;omega⟩,by simp only;omega,SubW.mk2 608 160 609 161 (by omega) ?_⟩;simp only [List.map_cons,List.map_nil,AV.sw,swL,Bmz,swp,↓reduceIte,Nat.reduceEqDiff];(focus ((refine Sub.of_lists ?_ ?_ ?_ ?_ ?_<;>simp [Vw.mkS,Vw.lk,Vw.hk,AV.inn,innL,Ajz,Ahz,Alz,-List.map_set,-List.getD_eq_getElem?_getD]);done))))
   ·have hz':¬ (sh.length:Int) > 0:=by omega
    (repeat' ((first
 | (first|refine Afz ?_|refine Aaz ?_)
 | (first|refine Agz ?_|refine Aez ?_|refine Aoz ?_|refine Atz ?_)
 | ((first|refine Aiz (fun h=>?_) (fun h=>?_))<;>(try simp only [h])<;>(try simp only [bitvec_to_nat] at h)<;>(try simp only [h])<;>(first|(exfalso;omega)|(exfalso;simp_all;done)|skip))
 | (first|refine Anz false ?_)
 | (first|(refine Akz (Apz (Azz _ _ _ _ _ ?_ ?_ ?_)) ?_;(iterate 3 (exact sd));rintro _ _ ⟨rfl,rfl⟩))
 | (refine Acz ⟨.inr rfl,[160,161],[],_,by decide,rfl,?_⟩;(try simp (disch:=omega) only [push_cast,seval,↓Adz,↓Abz,↓List.map_cons,↓List.map_nil,hlt,hz'])))<;>(try simp (disch:=omega) only [push_cast,seval,hlt,hz'])))
    all_goals exact ⟨_,sh,st,_,⟨hl,hl5,hl4⟩,by omega,rfl,rfl⟩
  ·(repeat' ((first
 | (first|refine Afz ?_|refine Aaz ?_)
 | (first|refine Agz ?_|refine Aez ?_|refine Aoz ?_|refine Atz ?_)
 | ((first|refine Aiz (fun h=>?_) (fun h=>?_))<;>(try simp only [h])<;>(try simp only [bitvec_to_nat] at h)<;>(try simp only [h])<;>(first|(exfalso;omega)|(exfalso;simp_all;done)|skip))
 | (first|refine Anz false ?_)
 | (first|(refine Akz (Apz (Azz _ _ _ _ _ ?_ ?_ ?_)) ?_;(iterate 3 (exact sd));rintro _ _ ⟨rfl,rfl⟩))
 | (refine Acz ⟨.inr rfl,[160,161],[],_,by decide,rfl,?_⟩;(try simp (disch:=omega) only [push_cast,seval,↓Adz,↓Abz,↓List.map_cons,↓List.map_nil,hlt])))<;>(try simp (disch:=omega) only [push_cast,seval,hlt])))
   all_goals exact ⟨_,sh,st,_,⟨hl,hl5,hl4⟩,by omega,rfl,rfl⟩

end Go.Proofs.YtapccmfnmiopoaaGreat
namespace Go.Proofs.YtapccmfnmiopoaaGreat
open VwM Vw Go

set_option maxHeartbeats 8000000 in
theorem someView_ok (bs:List Int)(p:Int)(hb:okB bs)(hp:0≤p∧p≤700000):BCall Tryz.prog 31 [.ref 0 2 0] [RD bs p] (fun r H'=>∃ b sh st q,(good4 sh∧sh.length≤4∧st.length≤5)∧(p≤q∧q≤p+210)∧r=.agg [.int .i64 b,.own 1 sh.length 1,.own 2 st.length 1]∧H'=[RD bs q,IL sh,IL st]):=by
 refine Awz (pins:=[0]) (pin:=1) l31_eq rfl rfl rfl ?_
 (repeat' ((first
 | (first|refine Afz ?_|refine Aaz ?_)
 | (first|refine Agz ?_|refine Cgz (mid:=l31r9a) (post:=l31r9b) [0] Bfz (by decide) ?_|refine Aez ?_|refine Aoz ?_)
 | ((first|refine Aiz (fun h=>?_) (fun h=>?_))<;>(try simp only [h])<;>(try simp only [bitvec_to_nat] at h)<;>(try simp only [h])<;>(first|(exfalso;omega)|(exfalso;simp_all;done)|skip))
 | (first|((with_reducible refine A6z (f:=60) [0] true ?_);simp (disch:=omega) only [push_cast,seval,Ayz,B9z,List.length_set];(refine Dqz (id:=0) (goodView_ok _ _ ?_ ?_) (by (simp (disch:=omega) only [push_cast,seval,Ayz,B9z,List.length_set])<;>rfl) ?_;(iterate 2 (exact sd));rintro _ _ ⟨b,sh,st,q,⟨hl1,hl9,hl2⟩,hq,rfl,rfl⟩))|((with_reducible refine A6z (f:=59) [0] true ?_);simp (disch:=omega) only [push_cast,seval,Ayz,B9z,List.length_set];(refine Dqz (id:=0) (Dyz _ _ _ ?_ ?_) (by (simp (disch:=omega) only [push_cast,seval,Ayz,B9z,List.length_set])<;>rfl) ?_;(iterate 2 (exact sd));rintro _ _ ⟨x,hx0,hx1,rfl,rfl⟩))|((with_reducible refine A6z (f:=58) (args:=[Operand.tmp 10,Operand.tmp 11]) [0,176] true ?_);simp (disch:=omega) only [push_cast,seval,Ayz,B9z,List.length_set];(refine Ddz (id:=0) (id':=176) (by decide) (Egz _ _ _ _ ?_ ?_ ?_ ?_ ?_) (by (simp (disch:=omega) only [push_cast,seval,Ayz,B9z,List.length_set])<;>rfl) (by (simp (disch:=omega) only [push_cast,seval,Ayz,B9z,List.length_set])<;>rfl) ?_;(iterate 5 (exact sd));rintro _ _ ⟨x,hx,hx0,rfl,rfl⟩))|((with_reducible refine Edz (f:=58) [0] true ?_);simp (disch:=omega) only [push_cast,seval,Ayz,B9z,List.length_set];(refine H4z (id:=0) (oneR_ok _ _ _ _ ?_ ?_ ?_ ?_ ?_) (by (simp (disch:=omega) only [push_cast,seval,Ayz,B9z,List.length_set])<;>rfl) (by decide) (by simp only [E2z,G0z];exact ⟨_,_,_,List.mem_cons_self,by omega,rfl,rfl⟩) ?_;(iterate 5 (exact sd));rintro _ _ ⟨x,hx,hx0,rfl,rfl⟩)))
 | (refine Acz ⟨.inr rfl,[80,81],[],_,by decide,rfl,?_⟩;(try simp (disch:=omega) only [push_cast,seval,↓Adz,↓Abz,↓List.map_cons,↓List.map_nil,Ayz,B9z,List.length_set])))<;>(try simp (disch:=omega) only [push_cast,seval,Ayz,B9z,List.length_set])))
 all_goals first
  | (refine ⟨b,sh,st,q,⟨?_,?_,?_⟩,?_,?_,?_⟩<;>first|omega|assumption|rfl|(simp;done)|(simp;omega))
  | (refine ⟨b,sh,st++[1],q+1,⟨?_,?_,?_⟩,?_,?_,?_⟩<;>first|omega|assumption|rfl|(simp;done)|(simp;omega))
  | (refine ⟨b,sh,st.set 0 x,q+1+1,⟨?_,?_,?_⟩,?_,?_,?_⟩<;>first|omega|assumption|rfl|(simp;done)|(simp;omega))
  | (refine ⟨b,sh,st,q+1,⟨?_,?_,?_⟩,?_,?_,?_⟩<;>first|omega|assumption|rfl|(simp;done)|(simp;omega))
  | (refine ⟨b,sh,st,q+1+1,⟨?_,?_,?_⟩,?_,?_,?_⟩<;>first|omega|assumption|rfl|(simp;done)|(simp;omega))
  | (refine ⟨x,sh,st,q+1+1,⟨?_,?_,?_⟩,?_,?_,?_⟩<;>first|omega|assumption|rfl|(simp;done)|(simp;omega))

end Go.Proofs.YtapccmfnmiopoaaGreat
namespace Go.Proofs.YtapccmfnmiopoaaGreat
open VwM Vw Go

theorem Jmz (xs:List Int)(n:Nat)(x:Int)(hn:xs.length=n)(hb:n≤1099511627776):PCall Tryz.prog 70 [.rows false (IL xs) n,.int .i64 x] (fun r=>r=.int .i64 (placeI xs x)):=by
 subst hn
 refine Axz l70_eq rfl ?_
 (repeat' (first
 | (first|refine Afz ?_|refine Aaz ?_)
 | ((first|refine Agz ?_);simp (disch:=omega) only [push_cast,seval])
 | (refine Acz ⟨.inr rfl,_,rfl,?_⟩;(try simp (disch:=omega) only [push_cast,seval]))))
 refine A0z (fun k:Nat=>mkS [(0,RI xs),(1,.int .i64 x),(7,.int .i64 xs.length),(8,.int .i64 k)] []) (fun k=>k≤xs.length∧∀ j:Nat,j<k→xs.getD j 0≠x) (fun k=>xs.length-k) 0 ⟨Nat.zero_le _,fun j h=>absurd h (Nat.not_lt_zero _)⟩ ?_ ?_
 ·(refine Sub.of_lists ?_ ?_ ?_ ?_ ?_<;>simp [Vw.mkS,Vw.lk,Vw.hk,AV.inn,innL,Ajz,Ahz,Alz,-List.map_set,-List.getD_eq_getElem?_getD])
 ·rintro k ⟨hk,hj⟩
  by_cases hlt:k<xs.length
  ·by_cases he:xs.getD k 0=x
   ·have he':(x=xs.getD k 0)=True:=eq_true he.symm
    (repeat' (first
 | (first|refine Afz ?_|refine Aaz ?_)
 | ((first|refine Agz ?_|refine Aez ?_|refine Aoz ?_);simp (disch:=omega) only [push_cast,seval,he',decide_true])
 | ((first|refine Aiz (fun h=>?_) (fun h=>?_))<;>(try simp only [h])<;>(try simp only [bitvec_to_nat] at h)<;>(try simp only [h])<;>(first|(exfalso;omega)|(exfalso;simp_all;done)|(simp (disch:=omega) only [push_cast,seval,he',decide_true])|skip))
 | (refine Acz ⟨.inr rfl,_,rfl,?_⟩;(try simp (disch:=omega) only [push_cast,seval,he',decide_true]))))
    rw [H7z (j:=k) hlt he hj]
   ·have he':(x=xs.getD k 0)=False:=eq_false fun h=>he h.symm
    (repeat' (first
 | (first|refine Afz ?_|refine Aaz ?_)
 | ((first|refine Agz ?_|refine Aez ?_|refine Aoz ?_);simp (disch:=omega) only [push_cast,seval,he',decide_false])
 | ((first|refine Aiz (fun h=>?_) (fun h=>?_))<;>(try simp only [h])<;>(try simp only [bitvec_to_nat] at h)<;>(try simp only [h])<;>(first|(exfalso;omega)|(exfalso;simp_all;done)|(simp (disch:=omega) only [push_cast,seval,he',decide_false])|skip))
 | (refine Acz ⟨.inr rfl,_,rfl,?_⟩;(try simp (disch:=omega) only [push_cast,seval,he',decide_false]))))
    refine ⟨k+1,⟨by omega,fun j h=>?_⟩,by omega,?_⟩
    ·by_cases hjk:j=k
     ·subst hjk;assumption
     ·exact hj j (by omega)
    ·(refine Sub.of_lists ?_ ?_ ?_ ?_ ?_<;>simp [Vw.mkS,Vw.lk,Vw.hk,AV.inn,innL,Ajz,Ahz,Alz,-List.map_set,-List.getD_eq_getElem?_getD])
  ·(repeat' (first
 | (first|refine Afz ?_|refine Aaz ?_)
 | ((first|refine Agz ?_|refine Aez ?_|refine Atz ?_);simp (disch:=omega) only [push_cast,seval])
 | ((first|refine Aiz (fun h=>?_) (fun h=>?_))<;>(try simp only [h])<;>(try simp only [bitvec_to_nat] at h)<;>(try simp only [h])<;>(first|(exfalso;omega)|(exfalso;simp_all;done)|(simp (disch:=omega) only [push_cast,seval])|skip))
 | (refine Acz ⟨.inr rfl,_,rfl,?_⟩;(try simp (disch:=omega) only [push_cast,seval]))))
   rw [H8z fun j h=>hj j (by omega)]


theorem C1z (xs:List Int)(n:Nat)(x:Int)(hn:xs.length=n)(hb:n≤1099511627776):PCall Tryz.prog 47 [.rows false (IL xs) n,.int .i64 x] (fun r=>r=.bool (decide (x∈xs))):=by
 subst hn
 refine Axz l47_eq rfl ?_
 by_cases h:x∈xs
 ·have hp:0≤placeI xs x:=by
   have:=mt (@E7z xs x).1 (fun h'=>h' h)
   omega
  (repeat' ((first
 | (first|refine Afz ?_|refine Aaz ?_)
 | (first|refine Agz ?_)
 | (first|refine Anz false ?_)
 | (first|(refine Akz (Apz (Jmz _ _ _ ?_ ?_)) ?_;(iterate 2 (exact sd));rintro _ _ ⟨rfl,rfl⟩))
 | (refine Acz ⟨.inr rfl,_,rfl,?_⟩))<;>(try simp (disch:=omega) only [push_cast,seval,hp,h])))
  all_goals (try simp)
 ·have hp:¬ 0≤placeI xs x:=by have:=(@E7z xs x).2 h;omega
  (repeat' ((first
 | (first|refine Afz ?_|refine Aaz ?_)
 | (first|refine Agz ?_)
 | (first|refine Anz false ?_)
 | (first|(refine Akz (Apz (Jmz _ _ _ ?_ ?_)) ?_;(iterate 2 (exact sd));rintro _ _ ⟨rfl,rfl⟩))
 | (refine Acz ⟨.inr rfl,_,rfl,?_⟩))<;>(try simp (disch:=omega) only [push_cast,seval,hp,h])))
  all_goals (try simp)


theorem Fez (xs:List Int)(n:Nat)(k:Nat)(hn:xs.length=n)(hb:n≤1099511627776∧k≤1000):PCall Tryz.prog 23 [.rows false (IL xs) n,.int .i64 k] (fun r=>r=.bool (decide (n=k)&&allI xs 0 ((k:Int)-1)&&decide xs.Nodup)):=by
 subst hn
 obtain ⟨hb1,hb2⟩:=hb
 rw [← order_iff]
 refine Axz l23_eq rfl ?_
 by_cases hl:xs.length=k
 ·have hl':(xs.length:Int)=k:=by omega
  have e0:decide (xs.length=k)=true:=decide_eq_true hl
  (repeat' (first
 | (first|refine Afz ?_|refine Aaz ?_)
 | ((first|refine Agz ?_|refine Aez ?_|refine Aoz ?_);simp (disch:=omega) only [push_cast,seval,hl',e0])
 | (refine Acz ⟨.inr rfl,_,rfl,?_⟩;(try simp (disch:=omega) only [push_cast,seval,hl',e0]))))
  refine A0z (fun d:Nat=>mkS [(0,RI xs),(10,.int .i64 k),(11,.int .i64 d)] []) (fun d=>d≤k∧∀ j:Nat,j<d→(j:Int)∈xs) (fun d=>k-d) 0 ⟨Nat.zero_le _,fun j h=>absurd h (Nat.not_lt_zero _)⟩ ?_ ?_
  ·(refine Sub.of_lists ?_ ?_ ?_ ?_ ?_<;>simp [Vw.mkS,Vw.lk,Vw.hk,AV.inn,innL,Ajz,Ahz,Alz,-List.map_set,-List.getD_eq_getElem?_getD,hl])
  ·rintro d ⟨hd,hj⟩
   by_cases hlt:d<k
   ·by_cases hm:(d:Int)∈xs
    ·have hm':decide ((d:Int)∈xs)=true:=decide_eq_true hm
     (repeat' ((first
 | (first|refine Afz ?_|refine Aaz ?_)
 | (first|refine Agz ?_|refine Aez ?_|refine Aoz ?_)
 | ((first|refine Aiz (fun h=>?_) (fun h=>?_))<;>(try simp only [h])<;>(try simp only [bitvec_to_nat] at h)<;>(try simp only [h])<;>(first|(exfalso;omega)|(exfalso;simp_all;done)|skip))
 | (first|refine Anz false ?_)
 | (first|(refine Akz (Apz (C1z _ _ _ ?_ ?_)) ?_;(iterate 2 (exact sd));rintro _ _ ⟨rfl,rfl⟩))
 | (refine Acz ⟨.inr rfl,_,rfl,?_⟩; (try simp (disch := omega) only [push_cast,seval,hm'])))<;>(try simp (disch:=omega) only [push_cast,seval,hm'])))
     refine ⟨d+1,⟨by omega,fun j h=>?_⟩,by omega,?_⟩
     ·by_cases hjk:j=d
      ·subst hjk;exact hm
      ·exact hj j (by omega)
     ·(refine Sub.of_lists ?_ ?_ ?_ ?_ ?_<;>simp [Vw.mkS,Vw.lk,Vw.hk,AV.inn,innL,Ajz,Ahz,Alz,-List.map_set,-List.getD_eq_getElem?_getD])
    ·have hm':decide ((d:Int)∈xs)=false:=decide_eq_false hm
     have hf:=hasAll_false hlt hm
     (repeat' ((first
 | (first|refine Afz ?_|refine Aaz ?_)
 | (first|refine Agz ?_|refine Aez ?_|refine Aoz ?_)
 | ((first|refine Aiz (fun h=>?_) (fun h=>?_))<;>(try simp only [h])<;>(try simp only [bitvec_to_nat] at h)<;>(try simp only [h])<;>(first|(exfalso;omega)|(exfalso;simp_all;done)|skip))
 | (first|refine Anz false ?_)
 | (first|(refine Akz (Apz (C1z _ _ _ ?_ ?_)) ?_;(iterate 2 (exact sd));rintro _ _ ⟨rfl,rfl⟩))
 | (refine Acz ⟨.inr rfl,_,rfl,?_⟩; (try simp (disch := omega) only [push_cast,seval,hm',hf])))<;>(try simp (disch:=omega) only [push_cast,seval,hm',hf])))
     all_goals (try simp)
   ·have ha:hasAll xs k=true:=Inz fun d' hd'=>hj d' (by omega)
    (repeat' (first
 | (first|refine Afz ?_|refine Aaz ?_)
 | ((first|refine Agz ?_|refine Aez ?_|refine Atz ?_);simp (disch:=omega) only [push_cast,seval,ha])
 | ((first|refine Aiz (fun h=>?_) (fun h=>?_))<;>(try simp only [h])<;>(try simp only [bitvec_to_nat] at h)<;>(try simp only [h])<;>(first|(exfalso;omega)|(exfalso;simp_all;done)|(simp (disch:=omega) only [push_cast,seval,ha])|skip))
 | (refine Acz ⟨.inr rfl,_,rfl,?_⟩;(try simp (disch:=omega) only [push_cast,seval,ha]))))
    all_goals (try simp [hl])
 ·have hl':¬ (xs.length:Int)=k:=by omega
  (repeat' (first
 | (first|refine Afz ?_|refine Aaz ?_)
 | ((first|refine Agz ?_|refine Aez ?_);simp (disch:=omega) only [push_cast,seval,hl'])
 | (refine Acz ⟨.inr rfl,_,rfl,?_⟩;(try simp (disch:=omega) only [push_cast,seval,hl']))))
  all_goals (try simp [hl])


set_option maxHeartbeats 8000000 in
theorem wholeOf_ok (b:Int)(sh st:List Int)(n m:Nat)(hn:sh.length=n)(hm:st.length=m)(hb:m=n∧n≤1000):BCall Tryz.prog 24 [.agg [.int .i64 b,.rows false (IL sh) n,.rows false (IL st) m]] [] (fun r H'=>r=.agg [.int .i64 b,.rows false (IL sh) n,.rows false (IL st) m,.int .i64 0,.int .i64 0,.int .i64 0,.int .i64 0,.own 0 n 2]∧H'=[IL (dm sh st)]):=by
 subst hn hm
 obtain ⟨hb1,hb2⟩:=hb
 refine Awz (pins:=[]) (pin:=0) l24_eq rfl rfl rfl ?_
 (repeat' (first
 | (first|refine Afz ?_|refine Aaz ?_)
 | ((first|refine Agz ?_);simp (disch:=omega) only [push_cast,seval])
 | (refine Acz ⟨.inr rfl,[416],[],_,by decide,rfl,?_⟩;(try simp (disch:=omega) only [push_cast,seval,↓Adz,↓Abz,↓List.map_cons,↓List.map_nil]))))
 refine A0z (fun k:Nat=>if k=0 then mkS [(1,.ref 16 3 0),(2,.ref 32 8 0),(3,.ref 48 8 0),(9,RI sh),(10,.int .i64 sh.length),(11,.int .i64 0)] [(16,[.int .i64 b,RI sh,RI st]),(32,[.int .i64 0,.val (.slice none 0 0),.val (.slice none 0 0),.int .i64 0,.int .i64 0,.int .i64 0,.int .i64 0,.val (.slice none 0 0)]),(48,[.int .i64 b,RI sh,RI st,.int .i64 0,.int .i64 0,.int .i64 0,.int .i64 0,.val (.slice none 0 0)])]
  else mkS [(1,.ref 16 3 0),(2,.ref 32 8 0),(3,.ref 48 8 0),(9,RI sh),(10,.int .i64 sh.length),(11,.int .i64 k)] [(16,[.int .i64 b,RI sh,RI st]),(32,[.int .i64 0,.val (.slice none 0 0),.val (.slice none 0 0),.int .i64 0,.int .i64 0,.int .i64 0,.int .i64 0,.val (.slice none 0 0)]),(48,[.int .i64 b,RI sh,RI st,.int .i64 0,.int .i64 0,.int .i64 0,.int .i64 0,.own 416 k 2]),(416,IL (dm (sh.take k) (st.take k)))])
  (fun k=>k≤sh.length) (fun k=>sh.length-k) 0 (Nat.zero_le _) ?_ ?_
 ·rw [if_pos rfl]
  (refine Sub.of_lists ?_ ?_ ?_ ?_ ?_<;>simp [Vw.mkS,Vw.lk,Vw.hk,AV.inn,innL,Ajz,Ahz,Alz,-List.map_set,-List.getD_eq_getElem?_getD])
 ·intro k hk
  by_cases hlt:k<sh.length
  ·have e1:=dm_take hlt hb1
   have hlt2:k<st.length:=by omega
   by_cases h0:k=0
   ·subst h0
    rw [if_pos rfl]
    have hs0:0<sh.length:=hlt
    have e2:[AV.int .i64 (sh.getD 0 0),AV.int .i64 (st.getD 0 0)]=IL (dm (sh.take (0+1)) (st.take (0+1))):=by rw [← e1];simp [dm]
    (repeat' (first
 | (first|refine Afz ?_|refine Aaz ?_)
 | ((first|refine Agz ?_|refine Auz (mid:=l24r5a) (post:=l24r5b) Bfz (by decide) ?_|refine Aez ?_|refine Aoz ?_);simp (disch:=omega) only [push_cast,seval,Int.natCast_zero])
 | ((first|refine Aiz (fun h=>?_) (fun h=>?_))<;>(try simp only [h])<;>(try simp only [bitvec_to_nat] at h)<;>(try simp only [h])<;>(first|(exfalso;omega)|(exfalso;simp_all;done)|(simp (disch:=omega) only [push_cast,seval,Int.natCast_zero])|skip))
 | (refine Acz ⟨.inr rfl,[],[],_,by decide,rfl,?_⟩;(try simp (disch:=omega) only [push_cast,seval,↓Adz,↓Abz,↓List.map_cons,↓List.map_nil,Int.natCast_zero]))))
    refine ⟨0+1,by omega,by omega,?_⟩
    rw [if_neg (by omega),← e2]
    (refine Sub.of_lists ?_ ?_ ?_ ?_ ?_<;>simp [Vw.mkS,Vw.lk,Vw.hk,AV.inn,innL,Ajz,Ahz,Alz,-List.map_set,-List.getD_eq_getElem?_getD])
   ·rw [if_neg h0]
    have e3:(dm (sh.take k) (st.take k)).length=k*2:=by rw [Gwz (by simp;omega)];simp;omega
    generalize hq1:dm (sh.take k) (st.take k)=q1 at *
    (repeat' (first
 | (first|refine Afz ?_|refine Aaz ?_)
 | ((first|refine Agz ?_|refine Auz (mid:=l24r5a) (post:=l24r5b) Bfz (by decide) ?_|refine Aez ?_|refine Aoz ?_);simp (disch:=omega) only [push_cast,seval,e3,snoc2])
 | ((first|refine Aiz (fun h=>?_) (fun h=>?_))<;>(try simp only [h])<;>(try simp only [bitvec_to_nat] at h)<;>(try simp only [h])<;>(first|(exfalso;omega)|(exfalso;simp_all;done)|(simp (disch:=omega) only [push_cast,seval,e3,snoc2])|skip))
 | (refine Acz ⟨.inr rfl,[],[],_,by decide,rfl,?_⟩;(try simp (disch:=omega) only [push_cast,seval,↓Adz,↓Abz,↓List.map_cons,↓List.map_nil,e3,snoc2]))))
    refine ⟨k+1,by omega,by omega,?_⟩
    rw [if_neg (by omega),← e1]
    (refine Sub.of_lists ?_ ?_ ?_ ?_ ?_<;>simp [Vw.mkS,Vw.lk,Vw.hk,AV.inn,innL,Ajz,Ahz,Alz,-List.map_set,-List.getD_eq_getElem?_getD,e3])
  ·have hke:k=sh.length:=by omega
   have ht:sh.take k=sh:=List.take_of_length_le (by omega)
   have ht2:st.take k=st:=List.take_of_length_le (by omega)
   by_cases h0:k=0
   ·subst h0
    rw [if_pos rfl]
    have hL:(sh.length:Int)=0:=by omega
    have hLn:sh.length=0:=by omega
    clear ht ht2 hk hlt hke
    (repeat' (first
 | (first|refine Afz ?_|refine Aaz ?_)
 | ((first|refine Agz ?_|refine Aez ?_|refine Atz ?_);simp (disch:=omega) only [push_cast,seval,hL])
 | (refine Acz ⟨.inr rfl,[16000],[(16000,2)],_,by decide,rfl,?_⟩;(try simp (disch:=omega) only [push_cast,seval,↓Adz,↓Abz,↓List.map_cons,↓List.map_nil,hL]))))
    have ho:sh=[]:=List.length_eq_zero_iff.1 hLn
    have ho2:st=[]:=List.length_eq_zero_iff.1 (by omega)
    all_goals simp [ho,ho2,dm]
   ·rw [if_neg h0,ht,ht2]
    (repeat' (first
 | (first|refine Afz ?_|refine Aaz ?_)
 | ((first|refine Agz ?_|refine Aez ?_|refine Atz ?_);simp (disch:=omega) only [push_cast,seval,hke])
 | ((first|refine Aiz (fun h=>?_) (fun h=>?_))<;>(try simp only [h])<;>(try simp only [bitvec_to_nat] at h)<;>(try simp only [h])<;>(first|(exfalso;omega)|(exfalso;simp_all;done)|(simp (disch:=omega) only [push_cast,seval,hke])|skip))
 | (refine Acz ⟨.inr rfl,[416],[],_,by decide,rfl,?_⟩;(try simp (disch:=omega) only [push_cast,seval,↓Adz,↓Abz,↓List.map_cons,↓List.map_nil,hke]))))
    all_goals simp


set_option maxHeartbeats 8000000 in
theorem partview_ok (b:Int)(sh st:List Int)(f:Nat→Int)(D E:List Int)(n m k:Nat)(hm:st.length=m)(hk:E.length=D.length∧D.length=k)(hb:(m≤4∧(-1000000≤b∧b≤1000000)∧∀ i,i<m→(-60≤f i∧f i≤60)∧-12960000≤st.getD i 0∧st.getD i 0≤12960000)∧k≤1000) :
  BCall Tryz.prog 25 [.agg [.int .i64 b,.rows false (IL sh) n,.rows false (IL st) m,.int .i64 (f 0),.int .i64 (f 1),.int .i64 (f 2),.int .i64 (f 3),.rows false (IL (dm D E)) k]] [] (OV (b+dot f st m) D E):=by
 obtain ⟨hk1,hk2⟩:=hk
 subst hm hk2
 obtain ⟨hb1,hb2⟩:=hb
 have eF:[AV.int .i64 (f 0),.int .i64 (f 1),.int .i64 (f 2),.int .i64 (f 3)]=IL (pad4 f):=rfl
 have hD:=Gwz hk1
 refine Awz (pins:=[]) (pin:=0) l25_eq rfl rfl rfl ?_
 (repeat' ((first
 | (first|refine Afz ?_|refine Aaz ?_)
 | (first|refine Agz ?_)
 | (first|refine Anz false ?_)
 | (first|(refine Akz (Apz (cell_ok _ _ _ _ _ _ ?_ ?_)) ?_;(iterate 2 (exact sd));rintro _ _ ⟨rfl,rfl⟩))
 | (refine Acz ⟨.inr rfl,[384,496],[],_,by decide,rfl,?_⟩;(try simp (disch:=omega) only [push_cast,seval,↓Adz,↓Abz,↓List.map_cons,↓List.map_nil,eF])))<;>(try simp (disch:=omega) only [push_cast,seval,eF])))
 generalize hB:b+dot f st st.length=B
 refine A0z (fun j:Nat=>if j=0 then mkS [(2,.ref 32 3 0),(3,.ref 48 3 0),(13,.rows false (IL (dm D E)) D.length),(14,.int .i64 D.length),(15,.int .i64 0)] [(32,[.int .i64 0,.val (.slice none 0 0),.val (.slice none 0 0)]),(48,[.int .i64 B,.val (.slice none 0 0),.val (.slice none 0 0)])]
  else mkS [(2,.ref 32 3 0),(3,.ref 48 3 0),(13,.rows false (IL (dm D E)) D.length),(14,.int .i64 D.length),(15,.int .i64 j)] [(32,[.int .i64 0,.val (.slice none 0 0),.val (.slice none 0 0)]),(48,[.int .i64 B,.own 384 j 1,.own 496 j 1]),(384,IL (D.take j)),(496,IL (E.take j))])
  (fun j=>j≤D.length) (fun j=>D.length-j) 0 (Nat.zero_le _) ?_ ?_
 ·rw [if_pos rfl]
  (refine Sub.of_lists ?_ ?_ ?_ ?_ ?_<;>simp [Vw.mkS,Vw.lk,Vw.hk,AV.inn,innL,Ajz,Ahz,Alz,-List.map_set,-List.getD_eq_getElem?_getD])
 ·intro j hj
  by_cases hlt:j<D.length
  ·have g1:=dm_even hlt hk1
   have g2:=dm_odd hlt hk1
   have s1:=A9z D j hlt
   have s2:=A9z E j (by omega)
   have hq:j*2+2≤(dm D E).length:=by omega
   have hq2:(dm D E).length=D.length*2:=hD
   generalize dm D E=L at *
   by_cases h0:j=0
   ·subst h0
    rw [if_pos rfl]
    have hs0:0<D.length:=hlt
    simp only [Nat.zero_mul,Nat.zero_add] at g1 g2 hq
    (repeat' (first
 | (first|refine Afz ?_|refine Aaz ?_)
 | ((first|refine Agz ?_|refine Aez ?_|refine Aoz ?_);simp (disch:=omega) only [push_cast,seval,Int.natCast_zero,g1,g2,Nat.zero_mul])
 | ((first|refine Aiz (fun h=>?_) (fun h=>?_))<;>(try simp only [h])<;>(try simp only [bitvec_to_nat] at h)<;>(try simp only [h])<;>(first|(exfalso;omega)|(exfalso;simp_all;done)|(simp (disch:=omega) only [push_cast,seval,Int.natCast_zero,g1,g2,Nat.zero_mul])|skip))
 | (refine Acz ⟨.inr rfl,[],[],_,by decide,rfl,?_⟩;(try simp (disch:=omega) only [push_cast,seval,↓Adz,↓Abz,↓List.map_cons,↓List.map_nil,Int.natCast_zero,g1,g2,Nat.zero_mul]))))
    refine ⟨0+1,by omega,by omega,?_⟩
    rw [if_neg (by omega),s1,s2]
    simp only [List.take_zero]
    (refine Sub.of_lists ?_ ?_ ?_ ?_ ?_<;>simp [Vw.mkS,Vw.lk,Vw.hk,AV.inn,innL,Ajz,Ahz,Alz,-List.map_set,-List.getD_eq_getElem?_getD])
   ·rw [if_neg h0]
    have e3:(D.take j).length=j:=by simp;omega
    have e4:(E.take j).length=j:=by simp;omega
    generalize D.take j=q1 at *
    generalize E.take j=q2 at *
    (repeat' (first
 | (first|refine Afz ?_|refine Aaz ?_)
 | ((first|refine Agz ?_|refine Aez ?_|refine Aoz ?_);simp (disch:=omega) only [push_cast,seval,g1,g2,e3,e4])
 | ((first|refine Aiz (fun h=>?_) (fun h=>?_))<;>(try simp only [h])<;>(try simp only [bitvec_to_nat] at h)<;>(try simp only [h])<;>(first|(exfalso;omega)|(exfalso;simp_all;done)|(simp (disch:=omega) only [push_cast,seval,g1,g2,e3,e4])|skip))
 | (refine Acz ⟨.inr rfl,[],[],_,by decide,rfl,?_⟩;(try simp (disch:=omega) only [push_cast,seval,↓Adz,↓Abz,↓List.map_cons,↓List.map_nil,g1,g2,e3,e4]))))
    refine ⟨j+1,by omega,by omega,?_⟩
    rw [if_neg (by omega),s1,s2]
    (refine Sub.of_lists ?_ ?_ ?_ ?_ ?_<;>simp [Vw.mkS,Vw.lk,Vw.hk,AV.inn,innL,Ajz,Ahz,Alz,-List.map_set,-List.getD_eq_getElem?_getD,e3,e4])
  ·have hke:j=D.length:=by omega
   have ht:D.take j=D:=List.take_of_length_le (by omega)
   have ht2:E.take j=E:=List.take_of_length_le (by omega)
   by_cases h0:j=0
   ·subst h0
    rw [if_pos rfl]
    have hL:(D.length:Int)=0:=by omega
    have hLn:D.length=0:=by omega
    clear ht ht2 hj hlt hke
    (repeat' (first
 | (first|refine Afz ?_|refine Aaz ?_)
 | ((first|refine Agz ?_|refine Aez ?_|refine Atz ?_);simp (disch:=omega) only [push_cast,seval,hL])
 | (refine Acz ⟨.inr rfl,[16000,16016],[(16000,1),(16016,1)],_,by decide,rfl,?_⟩;(try simp (disch:=omega) only [push_cast,seval,↓Adz,↓Abz,↓List.map_cons,↓List.map_nil,hL]))))
    have ho:D=[]:=List.length_eq_zero_iff.1 hLn
    have ho2:E=[]:=List.length_eq_zero_iff.1 (by omega)
    all_goals simp [OV,ho,ho2]
   ·rw [if_neg h0,ht,ht2]
    have hEl:E.length=j:=by omega
    (repeat' (first
 | (first|refine Afz ?_|refine Aaz ?_)
 | ((first|refine Agz ?_|refine Aez ?_|refine Atz ?_);simp (disch:=omega) only [push_cast,seval,hke,hEl])
 | ((first|refine Aiz (fun h=>?_) (fun h=>?_))<;>(try simp only [h])<;>(try simp only [bitvec_to_nat] at h)<;>(try simp only [h])<;>(first|(exfalso;omega)|(exfalso;simp_all;done)|(simp (disch:=omega) only [push_cast,seval,hke,hEl])|skip))
 | (refine Acz ⟨.inr rfl,[384,496],[],_,by decide,rfl,?_⟩;(try simp (disch:=omega) only [push_cast,seval,↓Adz,↓Abz,↓List.map_cons,↓List.map_nil,hke,hEl]))))
    all_goals simp [OV,hk1]
theorem partview4_ok (b:Int)(sh st:List Int)(p0 p1 p2 p3:Int)(D E:List Int)(n m k:Nat)(hm:st.length=m)(hk:E.length=D.length∧D.length=k)(hb:(m≤4∧(-1000000≤b∧b≤1000000)∧∀ i,i<m→(-60≤at4 p0 p1 p2 p3 i∧at4 p0 p1 p2 p3 i≤60)∧-12960000≤st.getD i 0∧st.getD i 0≤12960000)∧k≤1000) :
  BCall Tryz.prog 25 [.agg [.int .i64 b,.rows false (IL sh) n,.rows false (IL st) m,.int .i64 p0,.int .i64 p1,.int .i64 p2,.int .i64 p3,.rows false (IL (dm D E)) k]] [] (OV (b+dot (at4 p0 p1 p2 p3) st m) D E) :=
 partview_ok b sh st (at4 p0 p1 p2 p3) D E n m k hm hk hb


theorem pv_ok {b:Int}{sh st:List Int}(hv:vV b sh st=true):st.length≤4∧(-1000000≤b∧b≤1000000)∧∀ i,i<st.length→(-60≤at4 0 0 0 0 i∧at4 0 0 0 0 i≤60)∧-12960000≤st.getD i 0∧st.getD i 0≤12960000:=by
 obtain ⟨⟨⟨hg,-⟩,hb,-,hst⟩,hl⟩:=A4z hv
 have:=hg.2
 exact ⟨by omega,by omega,fun i hi=>⟨by rw [at4_zero];omega,hst i (by omega)⟩⟩
theorem dot_at4 (st:List Int)(n:Nat):dot (at4 0 0 0 0) st n=0:=dot_zero n fun i _=>at4_zero i

end Go.Proofs.YtapccmfnmiopoaaGreat
