/- Texts of this verifier. -/
import Derived.Test.YtkpcjppnjmhanaaGreatDoorCB11
import Derived.Test.YtkpcjppnjmhanaaGreatDoorCM1
import Derived.Test.YtkpcjppnjmhanaaGreatDoorCW3
set_option maxHeartbeats 4000000
set_option linter.unusedSimpArgs false
set_option linter.unusedSectionVars false
set_option linter.unusedVariables false
set_option maxRecDepth 4000
namespace Go.Proofs.YtkpcjppnjmhanaaGreatDoor
open VwM Vw Go
variable [SentA]

theorem Gtz {P:Program} {f:Nat} {args:List AV} {v:Bool} {b:Int} {sh st:List Int} (h:BCall P f args [] (MV v b sh st)) (h1:sh.length ≤ 1000) (h2:st.length ≤ 1000) :
    BCall P f args [] (fun r H'=>∃ ok b' sh' st',(sh'.length ≤ 1000 ∧ st'.length ≤ 1000) ∧ r=.tup [.agg [.int .i64 b',.own 0 sh'.length 1,.own 1 st'.length 1],.bool ok] ∧ H'=[IL sh',IL st']) :=
  h.mono fun r H' ⟨e1,e2⟩=>⟨v,MVB v b,MVL v sh,MVL v st,⟨Nat.le_trans (MVL_le v sh) h1,Nat.le_trans (MVL_le v st) h2⟩,e1,e2⟩
abbrev W4 (b:Int) (sh st:List Int) (n m:Nat):AV:=.agg [.int .i64 b,.rows false (IL sh) n,.rows false (IL st) m]
abbrev RelV:AV → List (List AV) → Prop:=fun r H'=>∃ ok b' sh' st',(sh'.length ≤ 1000 ∧ st'.length ≤ 1000) ∧ r=.tup [.agg [.int .i64 b',.own 0 sh'.length 1,.own 1 st'.length 1],.bool ok] ∧ H'=[IL sh',IL st']


theorem Ivz (b:Int) (sh st:List Int) (n m:Nat) (d f t w:Int) (hf ht:Bool) (hn:sh.length=n) (hm:st.length=m) (hb:n ≤ 100 ∧ m=n):BCall Tryz.prog 77 [W4 b sh st n m,.int .i64 d,slc f t w hf ht] [] RelV :=
  Gtz (Chz b sh st n m d f t w hf ht hn hm (by omega)) (by rw [Bqz];omega) (by rw [D1z (by omega)];omega)


theorem J9z (b:Int) (sh st:List Int) (n m:Nat) (d:Int) (hn:sh.length=n) (hm:st.length=m) (hb:n ≤ 100 ∧ m=n):BCall Tryz.prog 139 [W4 b sh st n m,.int .i64 d] [] RelV :=
  Gtz (sFlipDim_ok b sh st n m d hn hm (by omega)) (by rw [Bqz];omega) (by rw [D1z (by omega)];omega)


theorem relWin_ok (b:Int) (sh st:List Int) (n m:Nat) (d s:Int) (hn:sh.length=n) (hm:st.length=m) (hb:n ≤ 100 ∧ m=n):BCall Tryz.prog 143 [W4 b sh st n m,.int .i64 d,.int .i64 s] [] RelV :=
  Gtz (K8z b sh st n m d s hn hm (by omega)) (by simp [winSh];omega) (by simp [winSt];omega)


theorem G5z (xs:List Int) (k:Nat) (x:Int):(ins xs k x).length ≤ xs.length + 1:=by simp [ins];omega


theorem relAdd_ok (b:Int) (sh st:List Int) (n m:Nat) (d:Int) (hn:sh.length=n) (hm:st.length=m) (hb:n ≤ 100 ∧ m=n):BCall Tryz.prog 144 [W4 b sh st n m,.int .i64 d] [] RelV :=
  Gtz (sAddDim_ok b sh st n m d hn hm (by omega)) (by have:=G5z sh d.toNat 1;omega) (by have:=G5z st d.toNat 0;omega)


theorem J8z (b:Int) (sh st order:List Int) (n m p:Nat) (hn:sh.length=n) (hm:st.length=m) (hp:order.length=p) (hb:(n ≤ 100 ∧ m=n) ∧ p ≤ 1000):BCall Tryz.prog 140 [W4 b sh st n m,.rows false (IL order) p] [] RelV :=
  Gtz (Iqz b sh st order n m p hn hm hp (by omega)) (by rw [Cvz];omega) (by rw [Cvz];omega)


set_option maxHeartbeats 40000000 in
theorem goodView_ok (bs:List Int) (p:Int) (hb:okB bs) (hp:0 ≤ p ∧ p ≤ 800000):BCall Tryz.prog 110 [.ref 0 2 0] [RD bs p] (fun r H'=>∃ b sh st q,(st.length=sh.length ∧ sh.length ≤ 4 ∧ good4 sh) ∧ (p ≤ q ∧ q ≤ p + 200) ∧ r=.agg [.int .i64 b,.own 1 sh.length 1,.own 2 st.length 1] ∧ H'=[RD bs q,IL sh,IL st]):=by
  refine Atz (pins:=[0]) (pin:=1) l110_eq rfl rfl rfl ?_
  (repeat' (first
 | (first|refine Ahz ?_|refine Abz ?_)
 | ((first|refine Aiz ?_);simp (disch:=omega) only [push_cast,seval,l110r0,l110r1,l110r2,l110r3,l110r4,l110r5,l110r6,l110r7,l110r8,l110r9,l110r10a,l110r10b,l110r10,l110r11,l110r12,l110r13,l110r14a,l110r14b,l110r14,l110r15,l110r16a,l110r16b,l110r16,l110r17,l110r18,l110r19,l110r20a,l110r20b,l110r20,l110r21,l110r22,l110r23,l110r24,l110r25,l110r26,l110r27])
 | ((first|((with_reducible refine A0z (f:=138) [0] true ?_);simp (disch:=omega) only [push_cast,seval];(refine Ehz (id:=0) (goodShape_ok _ _ ?_ ?_) (by (simp (disch:=omega) only [push_cast,seval])<;>rfl) ?_;(iterate 2 (exact sd));rintro _ _ ⟨xs,q,⟨hxs,hxl⟩,hq,rfl,rfl⟩))|((with_reducible refine A0z (f:=65) [0] true ?_);simp (disch:=omega) only [push_cast,seval];(refine Ehz (id:=0) (Enz _ _ _ ?_ ?_) (by (simp (disch:=omega) only [push_cast,seval])<;>rfl) ?_;(iterate 2 (exact sd));rintro _ _ ⟨x,hx0,hx1,rfl,rfl⟩))|((with_reducible refine A0z (f:=57) (args:=[Operand.tmp 11,Operand.tmp 14]) [0,224] true ?_);simp (disch:=omega) only [push_cast,seval];(refine Crz (id:=0) (id':=224) (by decide) (Dgz _ _ _ _ ?_ ?_ ?_ ?_ ?_) (by (simp (disch:=omega) only [push_cast,seval])<;>rfl) (by (simp (disch:=omega) only [push_cast,seval])<;>rfl) ?_;(iterate 5 (exact sd));rintro _ _ ⟨x,hx,hx0,rfl,rfl⟩)))<;>(try simp (disch:=omega) only [push_cast,seval]))
 | ((first|refine Amz false ?_);simp (disch:=omega) only [push_cast,seval])
 | ((first|((first|refine Akz (Irz _ _ ?_ ?_) ?_|refine Agz (Irz _ _ ?_ ?_) ⟨_,_,rfl,rfl⟩ ?_);(iterate 2 (exact sd));rintro _ _ ⟨rfl,rfl⟩))<;>(try simp (disch:=omega) only [push_cast,seval]))
 | (refine Aez ⟨.inr rfl,[160,161],[],_,by decide,rfl,?_⟩;(try simp (disch:=omega) only [push_cast,seval,↓Adz,↓Acz,↓List.map_cons,↓List.map_nil]))))
  rename_i y10 hy10 hy11 yb hyb
  have hlw:(if vSh xs=true then newSt xs else []).length=(if vSh xs=true then xs else []).length:=by split<;>simp [newSt_length]
  have hlw2:good4 (if vSh xs=true then xs else []):=by
    split
    · rename_i hvs;exact (B2z hvs).1
    · exact ⟨fun x hx=>(by simp at hx),by simp⟩
  refine Djz (fun y:Int × List Int × List Int × Int × Int=>mkS [(0,.ref 0 2 0),(2,.ref 32 3 0),(3,.ref 48 3 0),(4,.int .i64 y.2.2.2.1)] [(0,RD bs y.2.2.2.2),(32,[.int .i64 0,.val (.slice none 0 0),.val (.slice none 0 0)]),(48,[.int .i64 y.1,.own 160 y.2.1.length 1,.own 161 y.2.2.1.length 1]),(160,IL y.2.1),(161,IL y.2.2.1)])
    (fun y=>y.2.2.1.length=y.2.1.length ∧ good4 y.2.1 ∧ 0 ≤ y.2.2.2.1 ∧ y.2.2.2.1 ≤ 4 ∧ p ≤ y.2.2.2.2 ∧ y.2.2.2.2 + 40 * y.2.2.2.1 ≤ p + 200) (fun y=>y.2.2.2.1.toNat) (yb,(if vSh xs=true then xs else []),(if vSh xs=true then newSt xs else []),x,q + 1 + 1 + 1) ⟨hlw,hlw2,by simp only;omega⟩ ?_ ?_
  · refine SubW.of ?_
    (refine Sub.of_lists ?_ ?_ ?_ ?_ ?_<;>simp [Vw.mkS,Vw.lk,Vw.hk,AV.inn,innL,Aoz,Alz,Arz,-List.map_set,-List.getD_eq_getElem?_getD])
  · clear hx0 hx1 hlw hlw2 hx hyb hy10 hy11 hxs hxl hq
    rintro ⟨b,sh,st,n,q⟩ ⟨hl,hl4,hn0,hn4,hpq,hq⟩
    simp only at hl hl4 hn0 hn4 hpq hq ⊢
    have hl5:=hl4.2
    have hm:sh.length ≤ 100 ∧ st.length=sh.length:=by omega
    by_cases hlt:n > 0
    · by_cases hz:sh.length > 0
      · have hz':(sh.length:Int) > 0:=by omega
        (repeat' (first
 | (first|refine Ahz ?_|refine Abz ?_)
 | ((first|refine Aiz ?_|refine Bvz (mid:=l110r10a) (post:=l110r10b) [0,96] Bcz (by decide) ?_|refine Bvz (mid:=l110r14a) (post:=l110r14b) [96] Bcz (by decide) ?_|refine Bvz (mid:=l110r16a) (post:=l110r16b) [0,96] Bcz (by decide) ?_|refine Bvz (mid:=l110r20a) (post:=l110r20b) [0] Bcz (by decide) ?_|refine Afz ?_|refine Apz ?_);simp (disch:=omega) only [push_cast,seval,l110r0,l110r1,l110r2,l110r3,l110r4,l110r5,l110r6,l110r7,l110r8,l110r9,l110r10a,l110r10b,l110r10,l110r11,l110r12,l110r13,l110r14a,l110r14b,l110r14,l110r15,l110r16a,l110r16b,l110r16,l110r17,l110r18,l110r19,l110r20a,l110r20b,l110r20,l110r21,l110r22,l110r23,l110r24,l110r25,l110r26,l110r27,hlt,hz',A2z,List.length_set])
 | ((first|refine Anz (fun h=>?_) (fun h=>?_)|refine Bez (fun h=>?_) (fun h=>?_))<;>(try simp only [h])<;>(try simp only [bitvec_to_nat] at h)<;>(try simp only [h])<;>(first|(exfalso;omega)|(exfalso;simp_all;done)|(simp (disch:=omega) only [push_cast,seval,hlt,hz',A2z,List.length_set])|skip))
 | ((first|((with_reducible refine A0z (f:=65) [0] true ?_);simp (disch:=omega) only [push_cast,seval,hlt,hz',A2z,List.length_set];(refine Ehz (id:=0) (Enz _ _ _ ?_ ?_) (by (simp (disch:=omega) only [push_cast,seval,hlt,hz',A2z,List.length_set])<;>rfl) ?_;(iterate 2 (exact sd));rintro _ _ ⟨x,hx0,hx1,rfl,rfl⟩))|((with_reducible refine Dsz (f:=65) [0] true ?_);simp (disch:=omega) only [push_cast,seval,hlt,hz',A2z,List.length_set];(refine Hkz (id:=0) (Enz _ _ _ ?_ ?_) (by (simp (disch:=omega) only [push_cast,seval,hlt,hz',A2z,List.length_set])<;>rfl) (by decide) ⟨_,_,0,by omega,Or.inr (Or.inr rfl),rfl,rfl⟩ ?_;(iterate 2 (exact sd));rintro _ _ ⟨x,hx0,hx1,rfl,rfl⟩))|((with_reducible refine Dsz (f:=57) [0] true ?_);simp (disch:=omega) only [push_cast,seval,hlt,hz',A2z,List.length_set];(refine Hkz (id:=0) (oneR_ok _ _ _ _ ?_ ?_ ?_ ?_ ?_) (by (simp (disch:=omega) only [push_cast,seval,hlt,hz',A2z,List.length_set])<;>rfl) (by decide) (by simp only [Dyz,Exz];exact ⟨_,_,_,List.mem_cons_self,by omega,rfl,rfl⟩) ?_;(iterate 5 (exact sd));rintro _ _ ⟨x,hx,hx0,rfl,rfl⟩))|((with_reducible refine Dsz (f:=75) [0] true ?_);simp (disch:=omega) only [push_cast,seval,hlt,hz',A2z,List.length_set];(refine Hkz (id:=0) (someSlice_ok _ _ ?_ ?_) (by (simp (disch:=omega) only [push_cast,seval,hlt,hz',A2z,List.length_set])<;>rfl) (by decide) ⟨_,_,0,0,0,false,false,_,by omega,⟨Int.le_refl _,by omega⟩,rfl,rfl⟩ ?_;(iterate 2 (exact sd));rintro _ _ ⟨f,t,w,hf,ht,q,hs,hq,rfl,rfl⟩)))<;>(try simp (disch:=omega) only [push_cast,seval,hlt,hz',A2z,List.length_set]))
 | ((first|refine Amz false ?_|refine Azz false ?_);simp (disch:=omega) only [push_cast,seval,hlt,hz',A2z,List.length_set])
 | ((first|((first|refine Akz (Ivz _ _ _ _ _ _ _ _ _ _ _ ?_ ?_ ?_) ?_|refine Agz (Ivz _ _ _ _ _ _ _ _ _ _ _ ?_ ?_ ?_) ⟨_,_,true,0,[],[],⟨by simp,by simp⟩,rfl,rfl⟩ ?_);(iterate 3 (exact sd));rintro _ _ ⟨ok,b',sh',st',⟨hl1,hl2⟩,rfl,rfl⟩)|((first|refine Akz (J9z _ _ _ _ _ _ ?_ ?_ ?_) ?_|refine Agz (J9z _ _ _ _ _ _ ?_ ?_ ?_) ⟨_,_,true,0,[],[],⟨by simp,by simp⟩,rfl,rfl⟩ ?_);(iterate 3 (exact sd));rintro _ _ ⟨ok,b',sh',st',⟨hl1,hl2⟩,rfl,rfl⟩)|((first|refine Akz (supTo_ok _ ?_) ?_|refine Agz (Ajz (Edz (supTo_ok _ ?_))) ⟨_,_,rfl,rfl⟩ ?_);(exact sd);rintro _ _ ⟨rfl,rfl⟩)|((first|refine Akz (Hwz _ _ ?_ ?_) ?_|refine Agz (Ajz (Edz (Hwz _ _ ?_ ?_))) ⟨_,_,rfl,rfl⟩ ?_);(iterate 2 (exact sd));rintro _ _ ⟨rfl,rfl⟩)|((first|refine Akz (J8z _ _ _ _ _ _ _ ?_ ?_ ?_ ?_) ?_|refine Agz (J8z _ _ _ _ _ _ _ ?_ ?_ ?_ ?_) ⟨_,_,true,0,[],[],⟨by simp,by simp⟩,rfl,rfl⟩ ?_);(iterate 4 (exact sd));rintro _ _ ⟨ok,b',sh',st',⟨hl1,hl2⟩,rfl,rfl⟩)|((first|refine Akz (relWin_ok _ _ _ _ _ _ _ ?_ ?_ ?_) ?_|refine Agz (relWin_ok _ _ _ _ _ _ _ ?_ ?_ ?_) ⟨_,_,true,0,[],[],⟨by simp,by simp⟩,rfl,rfl⟩ ?_);(iterate 3 (exact sd));rintro _ _ ⟨ok,b',sh',st',⟨hl1,hl2⟩,rfl,rfl⟩)|((first|refine Akz (relAdd_ok _ _ _ _ _ _ ?_ ?_ ?_) ?_|refine Agz (relAdd_ok _ _ _ _ _ _ ?_ ?_ ?_) ⟨_,_,true,0,[],[],⟨by simp,by simp⟩,rfl,rfl⟩ ?_);(iterate 3 (exact sd));rintro _ _ ⟨ok,b',sh',st',⟨hl1,hl2⟩,rfl,rfl⟩)|((first|refine Akz (A7z _ _ _ _ _ ?_ ?_ ?_) ?_|refine Agz (A7z _ _ _ _ _ ?_ ?_ ?_) ⟨_,_,rfl,rfl⟩ ?_);(iterate 3 (exact sd));rintro _ _ ⟨rfl,rfl⟩)|((first|refine Akz (Ajz (Aqz _ _ _ _ _ ?_ ?_ ?_)) ?_|refine Agz (Ajz (Aqz _ _ _ _ _ ?_ ?_ ?_)) ⟨_,_,rfl,rfl⟩ ?_);(iterate 3 (exact sd));rintro _ _ ⟨rfl,rfl⟩))<;>(try simp (disch:=omega) only [push_cast,seval,hlt,hz',A2z,List.length_set]))
 | (refine Aez ⟨.inr rfl,[160,161],[],_,by decide,rfl,?_⟩;(try simp (disch:=omega) only [push_cast,seval,↓Adz,↓Acz,↓List.map_cons,↓List.map_nil,hlt,hz',A2z,List.length_set]))))
        all_goals (first
          | (refine ⟨(b,sh,st,n - 1,q),⟨by assumption,by assumption,by simp only;omega⟩,by simp only;omega,SubW.of ?_⟩;(focus ((refine Sub.of_lists ?_ ?_ ?_ ?_ ?_<;>simp [Vw.mkS,Vw.lk,Vw.hk,AV.inn,innL,Aoz,Alz,Arz,-List.map_set,-List.getD_eq_getElem?_getD]);done)))
          | (refine ⟨(b,sh,st,n - 1,q + 1 + 1),⟨by assumption,by assumption,by simp only;omega⟩,by simp only;omega,SubW.of ?_⟩;(focus ((refine Sub.of_lists ?_ ?_ ?_ ?_ ?_<;>simp [Vw.mkS,Vw.lk,Vw.hk,AV.inn,innL,Aoz,Alz,Arz,-List.map_set,-List.getD_eq_getElem?_getD]);done)))
          | (refine ⟨(b,sh,st,n - 1,q + 1 + 1 + 1),⟨by assumption,by assumption,by simp only;omega⟩,by simp only;omega,SubW.of ?_⟩;(focus ((refine Sub.of_lists ?_ ?_ ?_ ?_ ?_<;>simp [Vw.mkS,Vw.lk,Vw.hk,AV.inn,innL,Aoz,Alz,Arz,-List.map_set,-List.getD_eq_getElem?_getD]);done)))
          | (refine ⟨(b,sh,st,n - 1,q + 1),⟨by assumption,by assumption,by simp only;omega⟩,by simp only;omega,SubW.of ?_⟩;(focus ((refine Sub.of_lists ?_ ?_ ?_ ?_ ?_<;>simp [Vw.mkS,Vw.lk,Vw.hk,AV.inn,innL,Aoz,Alz,Arz,-List.map_set,-List.getD_eq_getElem?_getD]);done)))
          | (have hv9:=A4z h;have hv8:=hv9.1.1.1;have hv7:=hv9.2;(try simp only [List.length_set] at hv7);refine ⟨(b',sh',st',n - 1,q),⟨by simp only [List.length_set];omega,hv8,by simp only;omega⟩,by simp only;omega,SubW.mk2 848 160 849 161 (by omega) ?_⟩;simp only [List.map_cons,List.map_nil,AV.sw,swL,Bhz,swp,↓reduceIte,Nat.reduceEqDiff];(focus ((refine Sub.of_lists ?_ ?_ ?_ ?_ ?_<;>simp [Vw.mkS,Vw.lk,Vw.hk,AV.inn,innL,Aoz,Alz,Arz,-List.map_set,-List.getD_eq_getElem?_getD]);done)))
          | (have hv9:=A4z h;have hv8:=hv9.1.1.1;have hv7:=hv9.2;(try simp only [List.length_set] at hv7);refine ⟨(b',sh',st',n - 1,q + 1 + 1),⟨by simp only [List.length_set];omega,hv8,by simp only;omega⟩,by simp only;omega,SubW.mk2 848 160 849 161 (by omega) ?_⟩;simp only [List.map_cons,List.map_nil,AV.sw,swL,Bhz,swp,↓reduceIte,Nat.reduceEqDiff];(focus ((refine Sub.of_lists ?_ ?_ ?_ ?_ ?_<;>simp [Vw.mkS,Vw.lk,Vw.hk,AV.inn,innL,Aoz,Alz,Arz,-List.map_set,-List.getD_eq_getElem?_getD]);done)))
          | (have hv9:=A4z h;have hv8:=hv9.1.1.1;have hv7:=hv9.2;(try simp only [List.length_set] at hv7);refine ⟨(b',sh',st',n - 1,q + 1 + 1 + 1),⟨by simp only [List.length_set];omega,hv8,by simp only;omega⟩,by simp only;omega,SubW.mk2 848 160 849 161 (by omega) ?_⟩;simp only [List.map_cons,List.map_nil,AV.sw,swL,Bhz,swp,↓reduceIte,Nat.reduceEqDiff];(focus ((refine Sub.of_lists ?_ ?_ ?_ ?_ ?_<;>simp [Vw.mkS,Vw.lk,Vw.hk,AV.inn,innL,Aoz,Alz,Arz,-List.map_set,-List.getD_eq_getElem?_getD]);done)))
          | (have hv9:=A4z h;have hv8:=hv9.1.1.1;have hv7:=hv9.2;(try simp only [List.length_set] at hv7);refine ⟨(b',sh',st',n - 1,q + 1),⟨by simp only [List.length_set];omega,hv8,by simp only;omega⟩,by simp only;omega,SubW.mk2 848 160 849 161 (by omega) ?_⟩;simp only [List.map_cons,List.map_nil,AV.sw,swL,Bhz,swp,↓reduceIte,Nat.reduceEqDiff];(focus ((refine Sub.of_lists ?_ ?_ ?_ ?_ ?_<;>simp [Vw.mkS,Vw.lk,Vw.hk,AV.inn,innL,Aoz,Alz,Arz,-List.map_set,-List.getD_eq_getElem?_getD]);done)))
          | (have hv9:=A4z h;have hv8:=hv9.1.1.1;have hv7:=hv9.2;(try simp only [List.length_set] at hv7);refine ⟨(b',sh',st',n - 1,q),⟨by simp only [List.length_set];omega,hv8,by simp only;omega⟩,by simp only;omega,SubW.mk2 976 160 977 161 (by omega) ?_⟩;simp only [List.map_cons,List.map_nil,AV.sw,swL,Bhz,swp,↓reduceIte,Nat.reduceEqDiff];(focus ((refine Sub.of_lists ?_ ?_ ?_ ?_ ?_<;>simp [Vw.mkS,Vw.lk,Vw.hk,AV.inn,innL,Aoz,Alz,Arz,-List.map_set,-List.getD_eq_getElem?_getD]);done)))
          | (have hv9:=A4z h;have hv8:=hv9.1.1.1;have hv7:=hv9.2;(try simp only [List.length_set] at hv7);refine ⟨(b',sh',st',n - 1,q + 1 + 1),⟨by simp only [List.length_set];omega,hv8,by simp only;omega⟩,by simp only;omega,SubW.mk2 976 160 977 161 (by omega) ?_⟩;simp only [List.map_cons,List.map_nil,AV.sw,swL,Bhz,swp,↓reduceIte,Nat.reduceEqDiff];(focus ((refine Sub.of_lists ?_ ?_ ?_ ?_ ?_<;>simp [Vw.mkS,Vw.lk,Vw.hk,AV.inn,innL,Aoz,Alz,Arz,-List.map_set,-List.getD_eq_getElem?_getD]);done)))
          | (have hv9:=A4z h;have hv8:=hv9.1.1.1;have hv7:=hv9.2;(try simp only [List.length_set] at hv7);refine ⟨(b',sh',st',n - 1,q + 1 + 1 + 1),⟨by simp only [List.length_set];omega,hv8,by simp only;omega⟩,by simp only;omega,SubW.mk2 976 160 977 161 (by omega) ?_⟩;simp only [List.map_cons,List.map_nil,AV.sw,swL,Bhz,swp,↓reduceIte,Nat.reduceEqDiff];(focus ((refine Sub.of_lists ?_ ?_ ?_ ?_ ?_<;>simp [Vw.mkS,Vw.lk,Vw.hk,AV.inn,innL,Aoz,Alz,Arz,-List.map_set,-List.getD_eq_getElem?_getD]);done)))
          | (have hv9:=A4z h;have hv8:=hv9.1.1.1;have hv7:=hv9.2;(try simp only [List.length_set] at hv7);refine ⟨(b',sh',st',n - 1,q + 1),⟨by simp only [List.length_set];omega,hv8,by simp only;omega⟩,by simp only;omega,SubW.mk2 976 160 977 161 (by omega) ?_⟩;simp only [List.map_cons,List.map_nil,AV.sw,swL,Bhz,swp,↓reduceIte,Nat.reduceEqDiff];(focus ((refine Sub.of_lists ?_ ?_ ?_ ?_ ?_<;>simp [Vw.mkS,Vw.lk,Vw.hk,AV.inn,innL,Aoz,Alz,Arz,-List.map_set,-List.getD_eq_getElem?_getD]);done)))
          | (have hv9:=A4z h;have hv8:=hv9.1.1.1;have hv7:=hv9.2;(try simp only [List.length_set] at hv7);refine ⟨(b',sh',st',n - 1,q),⟨by simp only [List.length_set];omega,hv8,by simp only;omega⟩,by simp only;omega,SubW.mk2 1168 160 1169 161 (by omega) ?_⟩;simp only [List.map_cons,List.map_nil,AV.sw,swL,Bhz,swp,↓reduceIte,Nat.reduceEqDiff];(focus ((refine Sub.of_lists ?_ ?_ ?_ ?_ ?_<;>simp [Vw.mkS,Vw.lk,Vw.hk,AV.inn,innL,Aoz,Alz,Arz,-List.map_set,-List.getD_eq_getElem?_getD]);done)))
          | (have hv9:=A4z h;have hv8:=hv9.1.1.1;have hv7:=hv9.2;(try simp only [List.length_set] at hv7);refine ⟨(b',sh',st',n - 1,q + 1 + 1),⟨by simp only [List.length_set];omega,hv8,by simp only;omega⟩,by simp only;omega,SubW.mk2 1168 160 1169 161 (by omega) ?_⟩;simp only [List.map_cons,List.map_nil,AV.sw,swL,Bhz,swp,↓reduceIte,Nat.reduceEqDiff];(focus ((refine Sub.of_lists ?_ ?_ ?_ ?_ ?_<;>simp [Vw.mkS,Vw.lk,Vw.hk,AV.inn,innL,Aoz,Alz,Arz,-List.map_set,-List.getD_eq_getElem?_getD]);done)))
          | (have hv9:=A4z h;have hv8:=hv9.1.1.1;have hv7:=hv9.2;(try simp only [List.length_set] at hv7);refine ⟨(b',sh',st',n - 1,q + 1 + 1 + 1),⟨by simp only [List.length_set];omega,hv8,by simp only;omega⟩,by simp only;omega,SubW.mk2 1168 160 1169 161 (by omega) ?_⟩;simp only [List.map_cons,List.map_nil,AV.sw,swL,Bhz,swp,↓reduceIte,Nat.reduceEqDiff];(focus ((refine Sub.of_lists ?_ ?_ ?_ ?_ ?_<;>simp [Vw.mkS,Vw.lk,Vw.hk,AV.inn,innL,Aoz,Alz,Arz,-List.map_set,-List.getD_eq_getElem?_getD]);done)))
          | (have hv9:=A4z h;have hv8:=hv9.1.1.1;have hv7:=hv9.2;(try simp only [List.length_set] at hv7);refine ⟨(b',sh',st',n - 1,q + 1),⟨by simp only [List.length_set];omega,hv8,by simp only;omega⟩,by simp only;omega,SubW.mk2 1168 160 1169 161 (by omega) ?_⟩;simp only [List.map_cons,List.map_nil,AV.sw,swL,Bhz,swp,↓reduceIte,Nat.reduceEqDiff];(focus ((refine Sub.of_lists ?_ ?_ ?_ ?_ ?_<;>simp [Vw.mkS,Vw.lk,Vw.hk,AV.inn,innL,Aoz,Alz,Arz,-List.map_set,-List.getD_eq_getElem?_getD]);done)))
          | (have hv9:=A4z h;have hv8:=hv9.1.1.1;have hv7:=hv9.2;(try simp only [List.length_set] at hv7);refine ⟨(b',sh',st',n - 1,q),⟨by simp only [List.length_set];omega,hv8,by simp only;omega⟩,by simp only;omega,SubW.mk2 1344 160 1345 161 (by omega) ?_⟩;simp only [List.map_cons,List.map_nil,AV.sw,swL,Bhz,swp,↓reduceIte,Nat.reduceEqDiff];(focus ((refine Sub.of_lists ?_ ?_ ?_ ?_ ?_<;>simp [Vw.mkS,Vw.lk,Vw.hk,AV.inn,innL,Aoz,Alz,Arz,-List.map_set,-List.getD_eq_getElem?_getD]);done)))
          | (have hv9:=A4z h;have hv8:=hv9.1.1.1;have hv7:=hv9.2;(try simp only [List.length_set] at hv7);refine ⟨(b',sh',st',n - 1,q + 1 + 1),⟨by simp only [List.length_set];omega,hv8,by simp only;omega⟩,by simp only;omega,SubW.mk2 1344 160 1345 161 (by omega) ?_⟩;simp only [List.map_cons,List.map_nil,AV.sw,swL,Bhz,swp,↓reduceIte,Nat.reduceEqDiff];(focus ((refine Sub.of_lists ?_ ?_ ?_ ?_ ?_<;>simp [Vw.mkS,Vw.lk,Vw.hk,AV.inn,innL,Aoz,Alz,Arz,-List.map_set,-List.getD_eq_getElem?_getD]);done)))
          | (have hv9:=A4z h;have hv8:=hv9.1.1.1;have hv7:=hv9.2;(try simp only [List.length_set] at hv7);refine ⟨(b',sh',st',n - 1,q + 1 + 1 + 1),⟨by simp only [List.length_set];omega,hv8,by simp only;omega⟩,by simp only;omega,SubW.mk2 1344 160 1345 161 (by omega) ?_⟩;simp only [List.map_cons,List.map_nil,AV.sw,swL,Bhz,swp,↓reduceIte,Nat.reduceEqDiff];(focus ((refine Sub.of_lists ?_ ?_ ?_ ?_ ?_<;>simp [Vw.mkS,Vw.lk,Vw.hk,AV.inn,innL,Aoz,Alz,Arz,-List.map_set,-List.getD_eq_getElem?_getD]);done)))
          | (have hv9:=A4z h;have hv8:=hv9.1.1.1;have hv7:=hv9.2;(try simp only [List.length_set] at hv7);refine ⟨(b',sh',st',n - 1,q + 1),⟨by simp only [List.length_set];omega,hv8,by simp only;omega⟩,by simp only;omega,SubW.mk2 1344 160 1345 161 (by omega) ?_⟩;simp only [List.map_cons,List.map_nil,AV.sw,swL,Bhz,swp,↓reduceIte,Nat.reduceEqDiff];(focus ((refine Sub.of_lists ?_ ?_ ?_ ?_ ?_<;>simp [Vw.mkS,Vw.lk,Vw.hk,AV.inn,innL,Aoz,Alz,Arz,-List.map_set,-List.getD_eq_getElem?_getD]);done)))
          | (have hv9:=A4z h;have hv8:=hv9.1.1.1;have hv7:=hv9.2;(try simp only [List.length_set] at hv7);refine ⟨(b',sh',st',n - 1,q),⟨by simp only [List.length_set];omega,hv8,by simp only;omega⟩,by simp only;omega,SubW.mk2 1472 160 1473 161 (by omega) ?_⟩;simp only [List.map_cons,List.map_nil,AV.sw,swL,Bhz,swp,↓reduceIte,Nat.reduceEqDiff];(focus ((refine Sub.of_lists ?_ ?_ ?_ ?_ ?_<;>simp [Vw.mkS,Vw.lk,Vw.hk,AV.inn,innL,Aoz,Alz,Arz,-List.map_set,-List.getD_eq_getElem?_getD]);done)))
          | (have hv9:=A4z h;have hv8:=hv9.1.1.1;have hv7:=hv9.2;(try simp only [List.length_set] at hv7);refine ⟨(b',sh',st',n - 1,q + 1 + 1),⟨by simp only [List.length_set];omega,hv8,by simp only;omega⟩,by simp only;omega,SubW.mk2 1472 160 1473 161 (by omega) ?_⟩;simp only [List.map_cons,List.map_nil,AV.sw,swL,Bhz,swp,↓reduceIte,Nat.reduceEqDiff];(focus ((refine Sub.of_lists ?_ ?_ ?_ ?_ ?_<;>simp [Vw.mkS,Vw.lk,Vw.hk,AV.inn,innL,Aoz,Alz,Arz,-List.map_set,-List.getD_eq_getElem?_getD]);done)))
          | (have hv9:=A4z h;have hv8:=hv9.1.1.1;have hv7:=hv9.2;(try simp only [List.length_set] at hv7);refine ⟨(b',sh',st',n - 1,q + 1 + 1 + 1),⟨by simp only [List.length_set];omega,hv8,by simp only;omega⟩,by simp only;omega,SubW.mk2 1472 160 1473 161 (by omega) ?_⟩;simp only [List.map_cons,List.map_nil,AV.sw,swL,Bhz,swp,↓reduceIte,Nat.reduceEqDiff];(focus ((refine Sub.of_lists ?_ ?_ ?_ ?_ ?_<;>simp [Vw.mkS,Vw.lk,Vw.hk,AV.inn,innL,Aoz,Alz,Arz,-List.map_set,-List.getD_eq_getElem?_getD]);done)))
          | (have hv9:=A4z h;have hv8:=hv9.1.1.1;have hv7:=hv9.2;(try simp only [List.length_set] at hv7);refine ⟨(b',sh',st',n - 1,q + 1),⟨by simp only [List.length_set];omega,hv8,by simp only;omega⟩,by simp only;omega,SubW.mk2 1472 160 1473 161 (by omega) ?_⟩;simp only [List.map_cons,List.map_nil,AV.sw,swL,Bhz,swp,↓reduceIte,Nat.reduceEqDiff];(focus ((refine Sub.of_lists ?_ ?_ ?_ ?_ ?_<;>simp [Vw.mkS,Vw.lk,Vw.hk,AV.inn,innL,Aoz,Alz,Arz,-List.map_set,-List.getD_eq_getElem?_getD]);done)))
          | (rename_i d _ _ _ _ _ _ _ _ _;have hv9:=A4z h;have hv8:=hv9.1.1.1;have hv7:=hv9.2;(try simp only [List.length_set] at hv7);refine ⟨(b,sh,st.set d.toNat x,n - 1,q + 1 + 1 + 1),⟨by simp only [List.length_set];omega,hv8,by simp only;omega⟩,by simp only;omega,SubW.mk2 608 160 609 161 (by omega) ?_⟩;simp only [List.map_cons,List.map_nil,AV.sw,swL,Bhz,swp,↓reduceIte,Nat.reduceEqDiff];(focus ((refine Sub.of_lists ?_ ?_ ?_ ?_ ?_<;>simp [Vw.mkS,Vw.lk,Vw.hk,AV.inn,innL,Aoz,Alz,Arz,-List.map_set,-List.getD_eq_getElem?_getD]);done))))
      · have hz':¬ (sh.length:Int) > 0:=by omega
        (repeat' (first
 | (first|refine Ahz ?_|refine Abz ?_)
 | ((first|refine Aiz ?_|refine Afz ?_|refine Apz ?_|refine Ayz ?_);simp (disch:=omega) only [push_cast,seval,l110r0,l110r1,l110r2,l110r3,l110r4,l110r5,l110r6,l110r7,l110r8,l110r9,l110r10a,l110r10b,l110r10,l110r11,l110r12,l110r13,l110r14a,l110r14b,l110r14,l110r15,l110r16a,l110r16b,l110r16,l110r17,l110r18,l110r19,l110r20a,l110r20b,l110r20,l110r21,l110r22,l110r23,l110r24,l110r25,l110r26,l110r27,hlt,hz'])
 | ((first|refine Anz (fun h=>?_) (fun h=>?_))<;>(try simp only [h])<;>(try simp only [bitvec_to_nat] at h)<;>(try simp only [h])<;>(first|(exfalso;omega)|(exfalso;simp_all;done)|(simp (disch:=omega) only [push_cast,seval,hlt,hz'])|skip))
 | ((first|refine Amz false ?_);simp (disch:=omega) only [push_cast,seval,hlt,hz'])
 | ((first|((first|refine Akz (Ajz (Aqz _ _ _ _ _ ?_ ?_ ?_)) ?_|refine Agz (Ajz (Aqz _ _ _ _ _ ?_ ?_ ?_)) ⟨_,_,rfl,rfl⟩ ?_);(iterate 3 (exact sd));rintro _ _ ⟨rfl,rfl⟩))<;>(try simp (disch:=omega) only [push_cast,seval,hlt,hz']))
 | (refine Aez ⟨.inr rfl,[160,161],[],_,by decide,rfl,?_⟩;(try simp (disch:=omega) only [push_cast,seval,↓Adz,↓Acz,↓List.map_cons,↓List.map_nil,hlt,hz']))))
        all_goals exact ⟨_,sh,st,_,⟨hl,hl5,hl4⟩,by omega,rfl,rfl⟩
    · (repeat' (first
 | (first|refine Ahz ?_|refine Abz ?_)
 | ((first|refine Aiz ?_|refine Afz ?_|refine Apz ?_|refine Ayz ?_);simp (disch:=omega) only [push_cast,seval,l110r0,l110r1,l110r2,l110r3,l110r4,l110r5,l110r6,l110r7,l110r8,l110r9,l110r10a,l110r10b,l110r10,l110r11,l110r12,l110r13,l110r14a,l110r14b,l110r14,l110r15,l110r16a,l110r16b,l110r16,l110r17,l110r18,l110r19,l110r20a,l110r20b,l110r20,l110r21,l110r22,l110r23,l110r24,l110r25,l110r26,l110r27,hlt])
 | ((first|refine Anz (fun h=>?_) (fun h=>?_))<;>(try simp only [h])<;>(try simp only [bitvec_to_nat] at h)<;>(try simp only [h])<;>(first|(exfalso;omega)|(exfalso;simp_all;done)|(simp (disch:=omega) only [push_cast,seval,hlt])|skip))
 | ((first|refine Amz false ?_);simp (disch:=omega) only [push_cast,seval,hlt])
 | ((first|((first|refine Akz (Ajz (Aqz _ _ _ _ _ ?_ ?_ ?_)) ?_|refine Agz (Ajz (Aqz _ _ _ _ _ ?_ ?_ ?_)) ⟨_,_,rfl,rfl⟩ ?_);(iterate 3 (exact sd));rintro _ _ ⟨rfl,rfl⟩))<;>(try simp (disch:=omega) only [push_cast,seval,hlt]))
 | (refine Aez ⟨.inr rfl,[160,161],[],_,by decide,rfl,?_⟩;(try simp (disch:=omega) only [push_cast,seval,↓Adz,↓Acz,↓List.map_cons,↓List.map_nil,hlt]))))
      all_goals exact ⟨_,sh,st,_,⟨hl,hl5,hl4⟩,by omega,rfl,rfl⟩

end Go.Proofs.YtkpcjppnjmhanaaGreatDoor
namespace Go.Proofs.YtkpcjppnjmhanaaGreatDoor
open VwM Vw Go
variable [SentA]

set_option maxHeartbeats 8000000 in
theorem someView_ok (bs:List Int) (p:Int) (hb:okB bs) (hp:0 ≤ p ∧ p ≤ 700000):BCall Tryz.prog 69 [.ref 0 2 0] [RD bs p] (fun r H'=>∃ b sh st q,(good4 sh ∧ sh.length ≤ 4 ∧ st.length ≤ 5) ∧ (p ≤ q ∧ q ≤ p + 210) ∧ r=.agg [.int .i64 b,.own 1 sh.length 1,.own 2 st.length 1] ∧ H'=[RD bs q,IL sh,IL st]):=by
  refine Atz (pins:=[0]) (pin:=1) l69_eq rfl rfl rfl ?_
  (repeat' (first
 | (first|refine Ahz ?_|refine Abz ?_)
 | ((first|refine Aiz ?_|refine Bvz (mid:=l69r9a) (post:=l69r9b) [0] Bcz (by decide) ?_|refine Afz ?_|refine Apz ?_);simp (disch:=omega) only [push_cast,seval,l69r0,l69r1,l69r2,l69r3,l69r4,l69r5,l69r6,l69r7,l69r8,l69r9a,l69r9b,l69r9,l69r10,A2z,Ckz,List.length_set])
 | ((first|refine Anz (fun h=>?_) (fun h=>?_))<;>(try simp only [h])<;>(try simp only [bitvec_to_nat] at h)<;>(try simp only [h])<;>(first|(exfalso;omega)|(exfalso;simp_all;done)|(simp (disch:=omega) only [push_cast,seval,A2z,Ckz,List.length_set])|skip))
 | ((first|((with_reducible refine A0z (f:=110) [0] true ?_);simp (disch:=omega) only [push_cast,seval,A2z,Ckz,List.length_set];(refine Ehz (id:=0) (goodView_ok _ _ ?_ ?_) (by (simp (disch:=omega) only [push_cast,seval,A2z,Ckz,List.length_set])<;>rfl) ?_;(iterate 2 (exact sd));rintro _ _ ⟨b,sh,st,q,⟨hl1,hl9,hl2⟩,hq,rfl,rfl⟩))|((with_reducible refine A0z (f:=65) [0] true ?_);simp (disch:=omega) only [push_cast,seval,A2z,Ckz,List.length_set];(refine Ehz (id:=0) (Enz _ _ _ ?_ ?_) (by (simp (disch:=omega) only [push_cast,seval,A2z,Ckz,List.length_set])<;>rfl) ?_;(iterate 2 (exact sd));rintro _ _ ⟨x,hx0,hx1,rfl,rfl⟩))|((with_reducible refine A0z (f:=57) (args:=[Operand.tmp 10,Operand.tmp 11]) [0,176] true ?_);simp (disch:=omega) only [push_cast,seval,A2z,Ckz,List.length_set];(refine Crz (id:=0) (id':=176) (by decide) (Dgz _ _ _ _ ?_ ?_ ?_ ?_ ?_) (by (simp (disch:=omega) only [push_cast,seval,A2z,Ckz,List.length_set])<;>rfl) (by (simp (disch:=omega) only [push_cast,seval,A2z,Ckz,List.length_set])<;>rfl) ?_;(iterate 5 (exact sd));rintro _ _ ⟨x,hx,hx0,rfl,rfl⟩))|((with_reducible refine Dsz (f:=57) [0] true ?_);simp (disch:=omega) only [push_cast,seval,A2z,Ckz,List.length_set];(refine Hkz (id:=0) (oneR_ok _ _ _ _ ?_ ?_ ?_ ?_ ?_) (by (simp (disch:=omega) only [push_cast,seval,A2z,Ckz,List.length_set])<;>rfl) (by decide) (by simp only [Dyz,Exz];exact ⟨_,_,_,List.mem_cons_self,by omega,rfl,rfl⟩) ?_;(iterate 5 (exact sd));rintro _ _ ⟨x,hx,hx0,rfl,rfl⟩)))<;>(try simp (disch:=omega) only [push_cast,seval,A2z,Ckz,List.length_set]))
 | (refine Aez ⟨.inr rfl,[80,81],[],_,by decide,rfl,?_⟩;(try simp (disch:=omega) only [push_cast,seval,↓Adz,↓Acz,↓List.map_cons,↓List.map_nil,A2z,Ckz,List.length_set]))))
  all_goals first
    | (refine ⟨b,sh,st,q,⟨?_,?_,?_⟩,?_,?_,?_⟩<;>first|omega|assumption|rfl|(simp;done)|(simp;omega))
    | (refine ⟨b,sh,st ++ [1],q + 1,⟨?_,?_,?_⟩,?_,?_,?_⟩<;>first|omega|assumption|rfl|(simp;done)|(simp;omega))
    | (refine ⟨b,sh,st.set 0 x,q + 1 + 1,⟨?_,?_,?_⟩,?_,?_,?_⟩<;>first|omega|assumption|rfl|(simp;done)|(simp;omega))
    | (refine ⟨b,sh,st,q + 1,⟨?_,?_,?_⟩,?_,?_,?_⟩<;>first|omega|assumption|rfl|(simp;done)|(simp;omega))
    | (refine ⟨b,sh,st,q + 1 + 1,⟨?_,?_,?_⟩,?_,?_,?_⟩<;>first|omega|assumption|rfl|(simp;done)|(simp;omega))
    | (refine ⟨x,sh,st,q + 1 + 1,⟨?_,?_,?_⟩,?_,?_,?_⟩<;>first|omega|assumption|rfl|(simp;done)|(simp;omega))

end Go.Proofs.YtkpcjppnjmhanaaGreatDoor
namespace Go.Proofs.YtkpcjppnjmhanaaGreatDoor
open VwM Vw Go
variable [SentA]

theorem opens_has {es:List Ex} {q:Nat} {e:Ex} (hq:es[q]?=some e) (ho:e.2.2=true):∀ {k:Nat},q < k → (q:Int) ∈ opensT es k
  | 0,h=>absurd h (Nat.not_lt_zero _)
  | k + 1,h=>by
    by_cases e1:q=k
    · subst e1
      rw [Eez hq ho]
      exact List.mem_append_right _ (List.mem_singleton.2 rfl)
    · have ih:=opens_has hq ho (k:=k) (by omega)
      cases hk:es[k]? with
 | none=>simp only [opensT,hk];exact ih
 | some f =>
        by_cases hf:f.2.2=true
        · rw [Eez hk hf];exact List.mem_append_left _ ih
        · rw [E5z hk hf];exact ih
/-- What is true of a new export. -/
theorem ev_facts {cs:List Int} {es:List Ex} {b:Int} {x y:List Int} (h:evG cs es b x y=true):seeB cs b x y=true ∧ loadA cs (es ++ [(-1,(b,x,y),true)]) (es.length:Int)=takesL cs (offs b x y) ∧ (es.length:Int) ∈ opensA cs (es ++ [(-1,(b,x,y),true)]):=by
  have hv2:=vB_ev h
  have hlast:(es ++ [((-1:Int),(b,x,y),true)])[es.length]?=some (-1,(b,x,y),true):=by
    rw [List.getElem?_append_right (Nat.le_refl _),Nat.sub_self];rfl
  have hlt:es.length < (es ++ [((-1:Int),(b,x,y),true)]).length:=by rw [List.length_append,List.length_singleton];omega
  refine ⟨Ikz hv2 hlast,loadA_at hv2 hlt hlast,?_⟩
  unfold opensA
  rw [if_pos hv2]
  exact opens_has hlast rfl hlt
abbrev vxQ (cs:List Int) (es:List Ex) (b:Int) (x y:List Int):Prop:=(x.length ≤ 1099511627776 ∧ y.length ≤ 1099511627776) ∧ ((ifB (evG cs es b x y) cs).length ≤ 1099511627776 ∧ (ifB (evG cs es b x y) (es ++ [(-1,(b,x,y),true)])).length ≤ 1099511627776 ∧ exB 1099511627776 (ifB (evG cs es b x y) (es ++ [(-1,(b,x,y),true)])))
theorem vxQ_of {cs:List Int} {es:List Ex} {b:Int} {x y:List Int} (h1:x.length ≤ 4) (h2:y.length ≤ 5):vxQ cs es b x y:=by
  refine ⟨by omega,?_⟩
  cases hg:evG cs es b x y with
  | false=>exact ⟨Nat.zero_le _,Nat.zero_le _,fun e he=>by cases he⟩
  | true=>exact vB_x (vB_ev hg)


theorem drawEVB_ok (bs:List Int) (n:Nat) (hn:bs.length=n) (hb:n ≤ 1099511627776 ∧ ∀ x ∈ bs,0 ≤ x ∧ x ≤ 255):BCall Tryz.prog 32 [.rows false (UL bs) n] [] (fun r H'=>∃ cs es b x y,sbQ cs es ∧ (x.length ≤ 4 ∧ y.length ≤ 5) ∧ r=.tup [.agg [.own 0 cs.length 1,.own 1 es.length 5],.agg [.int .i64 b,.own 2 x.length 1,.own 3 y.length 1]] ∧ H'=[IL cs,EL false es,IL x,IL y]):=by
  subst hn
  refine Atz (pins:=[]) (pin:=0) l32_eq rfl rfl rfl ?_
  (repeat' (first
 | (first|refine Ahz ?_|refine Abz ?_)
 | ((first|refine Aiz ?_);simp (disch:=omega) only [push_cast,seval,l32r0,l32r1,l32r2,Aaz])
 | ((first|((with_reducible refine Amz (f:=41) true ?_);simp (disch:=omega) only [push_cast,seval,Aaz];(refine Akz (newReader_ok _ _ ?_ ?_) ?_;(iterate 2 (exact sd));rintro _ _ ⟨bs0,hbs0,rfl,rfl⟩))|((with_reducible refine A0z (f:=68) [96] true ?_);simp (disch:=omega) only [push_cast,seval,Aaz];(refine Ehz (id:=96) (someB_ok _ _ ?_ ?_) (by (simp (disch:=omega) only [push_cast,seval,Aaz])<;>rfl) ?_;(iterate 2 (exact sd));rintro _ _ ⟨csG,esG,pG,hsG,hpG,rfl,rfl⟩))|((with_reducible refine A0z (f:=69) [96] true ?_);simp (disch:=omega) only [push_cast,seval,Aaz];(refine Ehz (id:=96) (someView_ok _ _ ?_ ?_) (by (simp (disch:=omega) only [push_cast,seval,Aaz])<;>rfl) ?_;(iterate 2 (exact sd));rintro _ _ ⟨b,sh,st,q,⟨hl1,hl9,hl2⟩,hq,rfl,rfl⟩)))<;>(try simp (disch:=omega) only [push_cast,seval,Aaz]))))
  all_goals ((refine Aez ⟨.inr rfl,[128,129,160,161],[],_,by decide,rfl,?_⟩;(try simp (disch:=omega) only [push_cast,seval,↓Adz,↓Acz,↓List.map_cons,↓List.map_nil,Aaz])))
  all_goals exact ⟨csG,esG,_,_,_,sbQ_of hsG,⟨hl9,hl2⟩,rfl,rfl⟩
theorem drawEV_ok (bs:List Int) (n:Nat) (hn:bs.length=n) (hb:n ≤ 1099511627776 ∧ ∀ x ∈ bs,0 ≤ x ∧ x ≤ 255):PCall Tryz.prog 32 [.rows false (UL bs) n] (fun r=>∃ cs es b x y,sbQ cs es ∧ vxQ cs es b x y ∧ r=.tup [.agg [.rows true (IL cs) cs.length,.rows true (EL false es) es.length],.agg [.int .i64 b,.rows true (IL x) x.length,.rows true (IL y) y.length]]):=by
  refine (BCall.plain (drawEVB_ok bs n hn hb)).mono ?_
  rintro r ⟨r0,H',⟨cs,es,b,x,y,h,hs,rfl,rfl⟩,rfl⟩
  refine ⟨cs,es,b,x,y,h,vxQ_of hs.1 hs.2,?_⟩
  simp [AV.ren,nthH,Iuz,A1z,J7z]


theorem iEVP2_ok (cs:List Int) (es:List Ex) (m n:Nat) (b:Int) (x y:List Int) (k l:Nat) (hm:cs.length=m) (hn:es.length=n) (hk:x.length=k) (hl:y.length=l) (hb:(x.length ≤ 1099511627776 ∧ y.length ≤ 1099511627776) ∧ cs.length ≤ 1048576 ∧ es.length ≤ 1048576 ∧ exB 1048576 es) :
    PCall Tryz.prog 33 [.agg [.rows false (IL cs) m,.rows false (EL false es) n],.agg [.int .i64 b,.rows false (IL x) k,.rows false (IL y) l]] (fun r=>r=.tup [.agg [.rows true (IL (ifB (evG cs es b x y) cs)) (ifB (evG cs es b x y) cs).length,.rows true (EL true (ifB (evG cs es b x y) (es ++ [(-1,(b,x,y),true)]))) (ifB (evG cs es b x y) (es ++ [(-1,(b,x,y),true)])).length],.bool (evG cs es b x y)]):=by
  subst hm hn hk hl
  exact OBf_plain (iEV_ok cs es _ _ b x y _ _ rfl rfl rfl rfl hb)


theorem sEVP2_ok (cs:List Int) (es:List Ex) (m n:Nat) (b:Int) (x y:List Int) (k l:Nat) (hm:cs.length=m) (hn:es.length=n) (hk:x.length=k) (hl:y.length=l) (hb:(x.length ≤ 1099511627776 ∧ y.length ≤ 1099511627776) ∧ cs.length ≤ 1099511627776 ∧ es.length ≤ 1099511627776 ∧ exB 1099511627776 es) :
    PCall Tryz.prog 34 [.agg [.rows false (IL cs) m,.rows false (EL false es) n],.agg [.int .i64 b,.rows false (IL x) k,.rows false (IL y) l]] (fun r=>r=.tup [.agg [.rows true (IL (ifB (evG cs es b x y) cs)) (ifB (evG cs es b x y) cs).length,.rows true (EL true (ifB (evG cs es b x y) (es ++ [(-1,(b,x,y),true)]))) (ifB (evG cs es b x y) (es ++ [(-1,(b,x,y),true)])).length],.bool (evG cs es b x y)]):=by
  subst hm hn hk hl
  exact OBs_plain (sEV_ok cs es _ _ b x y _ _ rfl rfl rfl rfl hb)


set_option maxHeartbeats 64000000 in
theorem lEVf_ok (bs:List Int) (hn:bs.length ≤ 9223372036854775807) (hb:∀ x ∈ bs,0 ≤ x ∧ x ≤ 255):PCall Tryz.prog 7 [.rows false (UL bs) bs.length] (fun r=>r=.bool true):=by
  refine Awz l7_eq rfl ?_
  by_cases h:bs.length ≤ 1048576
  · have q:bs.length ≤ 1099511627776 ∧ ∀ x ∈ bs,0 ≤ x ∧ x ≤ 255:=⟨by omega,hb⟩
    (repeat' (first
 | (first|refine Ahz ?_|refine Abz ?_)
 | ((first|refine Aiz ?_|refine Auz (mid:=l7r9a) (post:=l7r9b) Bcz (by decide) ?_|refine Afz ?_|refine Apz ?_);simp (disch:=omega) only [push_cast,seval,l7r0,l7r1,l7r2,l7r3,l7r4,l7r5,l7r6,l7r7,l7r8,l7r9a,l7r9b,l7r9,Aaz,bne_self_eq_false,decide_true])
 | ((first|refine Anz (fun h=>?_) (fun h=>?_))<;>(try simp only [h])<;>(try simp only [bitvec_to_nat] at h)<;>(try simp only [h])<;>(first|(exfalso;omega)|(exfalso;simp_all;done)|(simp (disch:=omega) only [push_cast,seval,Aaz,bne_self_eq_false,decide_true])|skip))
 | ((first|((with_reducible refine Amz (f:=32) true ?_);simp (disch:=omega) only [push_cast,seval,Aaz,bne_self_eq_false,decide_true];(refine Akz (Ajz (drawEV_ok _ _ ?_ ?_)) ?_;(iterate 2 (exact sd));rintro _ _ ⟨⟨cs,es,b,x,y,⟨hs1,hs2,hs3,hs4,hs5⟩,⟨hk1,hq1⟩,rfl⟩,rfl⟩)))<;>(try simp (disch:=omega) only [push_cast,seval,Aaz,bne_self_eq_false,decide_true]))
 | ((first|refine Amz false ?_|refine Azz false ?_);simp (disch:=omega) only [push_cast,seval,Aaz,bne_self_eq_false,decide_true])
 | ((first|((first|refine Akz (Ajz (iEVP2_ok _ _ _ _ _ _ _ _ _ ?_ ?_ ?_ ?_ ?_)) ?_|refine Agz (Ajz (iEVP2_ok _ _ _ _ _ _ _ _ _ ?_ ?_ ?_ ?_ ?_)) ⟨_,_,rfl,rfl⟩ ?_);(iterate 5 (exact sd));rintro _ _ ⟨rfl,rfl⟩)|((first|refine Akz (Ajz (sEVP2_ok _ _ _ _ _ _ _ _ _ ?_ ?_ ?_ ?_ ?_)) ?_|refine Agz (Ajz (sEVP2_ok _ _ _ _ _ _ _ _ _ ?_ ?_ ?_ ?_ ?_)) ⟨_,_,rfl,rfl⟩ ?_);(iterate 5 (exact sd));rintro _ _ ⟨rfl,rfl⟩)|((first|refine Akz (Ajz (eqBufS_ok _ _ _ _ _ _ ?_ ?_ ?_ ?_ ?_)) ?_|refine Agz (Ajz (eqBufS_ok _ _ _ _ _ _ ?_ ?_ ?_ ?_ ?_)) ⟨_,_,rfl,rfl⟩ ?_);(iterate 5 (exact sd));rintro _ _ ⟨rfl,rfl⟩)|((first|refine Akz (Ajz (iLEP_ok _ _ _ _ _ ?_ ?_ ?_)) ?_|refine Agz (Ajz (iLEP_ok _ _ _ _ _ ?_ ?_ ?_)) ⟨_,_,rfl,rfl⟩ ?_);(iterate 3 (exact sd));rintro _ _ ⟨rfl,rfl⟩))<;>(try simp (disch:=omega) only [push_cast,seval,Aaz,bne_self_eq_false,decide_true]))))
    · (refine Aez ⟨.inr rfl,_,rfl,?_⟩;try simp (disch:=omega) only [push_cast,seval,beq_self_eq_true])
      all_goals (try simp)
    · have hv2:=vB_ev h
      obtain ⟨hsee,hl1,hin⟩:=ev_facts h
      have q9:seeB cs b x y=true ∧ cs.length ≤ 1099511627776 ∧ x.length ≤ 1099511627776 ∧ y.length ≤ 1099511627776:=⟨hsee,hs1.1,hk1⟩
      have hol:=Kez cs (es ++ [(-1,(b,x,y),true)])
      have hE8:=(Ilz hv2).2.1
      have hd:=decide_eq_true hin
      have htl:=takesL_length cs (offs b x y)
      have ha:=(see_prX hsee).1
      rw [h] at hq1
      simp only [Daz] at hq1 ⊢
      generalize hE:es ++ [((-1:Int),(b,x,y),true)]=E at *
      generalize hT:takesL cs (offs b x y)=T at *
      have q5:T.length ≤ 1099511627776 ∧ T.length ≤ 1099511627776:=by omega
      (repeat' (first
 | (first|refine Ahz ?_|refine Abz ?_)
 | ((first|refine Amz false ?_|refine Azz false ?_);simp (disch:=omega) only [push_cast,seval,Aaz,hl1,hd,hT,hv2,decide_true])
 | ((first|((first|refine Akz (Ajz (Klz _ _ _ _ _ _ _ ?_ ?_ ?_ ?_)) ?_|refine Agz (Ajz (Klz _ _ _ _ _ _ _ ?_ ?_ ?_ ?_)) ⟨_,_,rfl,rfl⟩ ?_);(iterate 4 (exact sd));rintro _ _ ⟨rfl,rfl⟩)|((first|refine Akz (Ajz (Cxz _ _ _ _ ?_ ?_ ?_)) ?_|refine Agz (Ajz (Cxz _ _ _ _ ?_ ?_ ?_)) ⟨_,_,rfl,rfl⟩ ?_);(iterate 3 (exact sd));rintro _ _ ⟨rfl,rfl⟩)|((first|refine Akz (Ajz (Cez _ _ _ _ ?_ ?_ ?_)) ?_|refine Agz (Ajz (Cez _ _ _ _ ?_ ?_ ?_)) ⟨_,_,rfl,rfl⟩ ?_);(iterate 3 (exact sd));rintro _ _ ⟨rfl,rfl⟩)|((first|refine Akz (Ajz (iOpenP_ok _ _ _ _ ?_ ?_ ?_)) ?_|refine Agz (Ajz (iOpenP_ok _ _ _ _ ?_ ?_ ?_)) ⟨_,_,rfl,rfl⟩ ?_);(iterate 3 (exact sd));rintro _ _ ⟨rfl,rfl⟩)|((first|refine Akz (Ajz (isInL_ok _ _ _ ?_ ?_)) ?_|refine Agz (Ajz (isInL_ok _ _ _ ?_ ?_)) ⟨_,_,rfl,rfl⟩ ?_);(iterate 2 (exact sd));rintro _ _ ⟨rfl,rfl⟩))<;>(try simp (disch:=omega) only [push_cast,seval,Aaz,hl1,hd,hT,hv2,decide_true]))))
      all_goals ((refine Aez ⟨.inr rfl,_,rfl,?_⟩;try simp (disch:=omega) only [push_cast,seval]))
      all_goals (try rfl)
    all_goals ((refine Aez ⟨.inr rfl,_,rfl,?_⟩;try simp (disch:=omega) only [push_cast,seval,beq_self_eq_true]))
    all_goals (try simp)
  · (repeat' (first
 | (first|refine Ahz ?_|refine Abz ?_)
 | ((first|refine Aiz ?_|refine Afz ?_);simp (disch:=omega) only [push_cast,seval,l7r0,l7r1,l7r2,l7r3,l7r4,l7r5,l7r6,l7r7,l7r8,l7r9a,l7r9b,l7r9,Aaz])
 | ((first|refine Anz (fun h=>?_) (fun h=>?_))<;>(try simp only [h])<;>(try simp only [bitvec_to_nat] at h)<;>(try simp only [h])<;>(first|(exfalso;omega)|(exfalso;simp_all;done)|(simp (disch:=omega) only [push_cast,seval,Aaz])|skip))
 | (refine Aez ⟨.inr rfl,_,rfl,?_⟩;(try simp (disch:=omega) only [push_cast,seval,Aaz]))))

end Go.Proofs.YtkpcjppnjmhanaaGreatDoor
