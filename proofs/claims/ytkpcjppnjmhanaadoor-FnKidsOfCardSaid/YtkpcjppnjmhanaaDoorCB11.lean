/- Texts of this verifier. -/
import Derived.Test.YtkpcjppnjmhanaaDoorCB10
import Derived.Test.YtkpcjppnjmhanaaDoorCM1
import Derived.Test.YtkpcjppnjmhanaaDoorCW3
set_option maxHeartbeats 4000000
set_option linter.unusedSimpArgs false
set_option linter.unusedSectionVars false
set_option linter.unusedVariables false
set_option maxRecDepth 4000
namespace Go.Proofs.YtkpcjppnjmhanaaDoor
open VwM Vw Go
variable [SentA]

theorem actK_rest {k a:Int} (hx:k ∈ unI [AV.int IntKind.i64 1,AV.int IntKind.i64 2,AV.int IntKind.i64 3,AV.int IntKind.i64 4,AV.int IntKind.i64 5,AV.int IntKind.i64 6,AV.int IntKind.i64 7,AV.int IntKind.i64 0,AV.int IntKind.i64 6,AV.int IntKind.i64 4]) (h:(k ≠ 0 ∧ k ≠ 1 ∧ k ≠ 2) ∧ k ≠ 4 ∧ k ≠ 5):actK k [a]:=by
  simp only [Ddz,D5z,List.mem_cons,List.not_mem_nil,or_false] at hx
  have h3:k=3 ∨ k=6 ∨ k=7:=by omega
  rcases h3 with rfl|rfl|rfl
  · exact .inr (.inr (.inr (.inl ⟨rfl,_,rfl⟩)))
  · exact .inr (.inr (.inr (.inr (.inr (.inr (.inl ⟨rfl,_,rfl⟩))))))
  · exact .inr (.inr (.inr (.inr (.inr (.inr (.inr ⟨rfl,_,rfl⟩))))))


set_option maxHeartbeats 16000000 in
theorem Dhz (bs:List Int) (p:Int) (cs:List Int) (es:List Ex) (m n:Nat) (hm:cs.length=m) (hn:es.length=n) (hbs:okB bs) (hp:0 ≤ p ∧ p ≤ 900000) (hv:vB cs es=true) :
    BCall Tryd.prog 60 [.ref 0 2 0,.agg [.own 1 m 1,.own 2 n 5]] [RD bs p,IL cs,EL false es] (fun r H'=>∃ k nums p',actK k nums ∧ (p ≤ p' ∧ p' ≤ p + 10) ∧ r=.agg [.int .i64 k,.own 3 nums.length 1] ∧ H'=[RD bs p',IL cs,EL false es,IL nums]):=by
  subst hm hn
  have hel:=A6z false es
  have hq8:=vB_x hv
  obtain ⟨hp1,hp2⟩:=hp
  obtain ⟨v1,v2,v3⟩:=Jqz hv
  have hol:=Jxz cs es
  generalize hO:opensA cs es=O at *
  refine A5z (pins:=[0,1,2]) (pin:=3) l60_eq rfl rfl rfl ?_
  (repeat' (first
 | (first|refine Apz ?_|refine Aiz ?_)
 | ((first|refine Aqz ?_|refine Ahz ?_|refine Ajz ?_|refine Akz ?_);simp (disch:=omega) only [push_cast,seval,l60r0,l60r1,l60r2,l60r3,l60r4,l60r5,l60r6,l60r7,l60r8,l60r9,l60r10,l60r11,l60r12,l60r13,l60r14,l60r15,l60r16,l60r17,hO,hel,Aaz])
 | ((first|refine Acz ?_ ?_|refine Agz ?_ ?_|refine Afz ?_ ?_)<;>intro h<;>(try simp only [h])<;>(try simp only [bitvec_to_nat] at h)<;>(try simp only [h])<;>(first|(exfalso;omega)|(exfalso;simp_all;done)|(simp (disch:=omega) only [push_cast,seval,hO,hel,Aaz])|skip))
 | ((first|((with_reducible refine Azz (f:=40) [0] true ?_);simp (disch:=omega) only [push_cast,seval,hO,hel,Aaz];(refine C8z (id:=0) (Dcz _ _ _ ?_ ?_) (by (simp (disch:=omega) only [push_cast,seval,hO,hel,Aaz])<;>rfl) ?_;(iterate 2 (exact sd));rintro _ _ ⟨x,hx0,hx1,rfl,rfl⟩))|((with_reducible refine Bpz (f:=40) [0] true ?_);simp (disch:=omega) only [push_cast,seval,hO,hel,Aaz];(refine C5z (id:=0) (Dcz _ _ _ ?_ ?_) (by (simp (disch:=omega) only [push_cast,seval,hO,hel,Aaz])<;>rfl) (by decide) ⟨_,_,0,by omega,Or.inr (Or.inr rfl),rfl,rfl⟩ ?_;(iterate 2 (exact sd));rintro _ _ ⟨x,hx0,hx1,rfl,rfl⟩))|((with_reducible refine Azz (f:=41) (args:=[Operand.tmp 31,Operand.tmp 32]) [0,512] true ?_);simp (disch:=omega) only [push_cast,seval,hO,hel,Aaz];(refine Cwz (id:=0) (id':=512) (by decide) (D3z _ _ _ _ ?_ ?_ ?_ ?_ ?_) (by (simp (disch:=omega) only [push_cast,seval,hO,hel,Aaz])<;>rfl) (by (simp (disch:=omega) only [push_cast,seval,hO,hel,Aaz])<;>rfl) ?_;(iterate 5 (exact sd));rintro _ _ ⟨x,hx,hx0,rfl,rfl⟩))|((with_reducible refine Azz (f:=41) (args:=[Operand.tmp 42,Operand.tmp 43]) [0,688] true ?_);simp (disch:=omega) only [push_cast,seval,hO,hel,Aaz];(refine Cwz (id:=0) (id':=688) (by decide) (D3z _ _ _ _ ?_ ?_ ?_ ?_ ?_) (by (simp (disch:=omega) only [push_cast,seval,hO,hel,Aaz])<;>rfl) (by (simp (disch:=omega) only [push_cast,seval,hO,hel,Aaz])<;>rfl) ?_;(iterate 5 (exact sd));rintro _ _ ⟨x,hx,hx0,rfl,rfl⟩))|((with_reducible refine Azz (f:=41) (args:=[Operand.tmp 52,Operand.tmp 53]) [0,848] true ?_);simp (disch:=omega) only [push_cast,seval,hO,hel,Aaz];(refine Cwz (id:=0) (id':=848) (by decide) (D3z _ _ _ _ ?_ ?_ ?_ ?_ ?_) (by (simp (disch:=omega) only [push_cast,seval,hO,hel,Aaz])<;>rfl) (by (simp (disch:=omega) only [push_cast,seval,hO,hel,Aaz])<;>rfl) ?_;(iterate 5 (exact sd));rintro _ _ ⟨x,hx,hx0,rfl,rfl⟩))|((with_reducible refine Azz (f:=41) (args:=[Operand.tmp 55,Operand.tmp 56]) [0,896] true ?_);simp (disch:=omega) only [push_cast,seval,hO,hel,Aaz];(refine Cwz (id:=0) (id':=896) (by decide) (D3z _ _ _ _ ?_ ?_ ?_ ?_ ?_) (by (simp (disch:=omega) only [push_cast,seval,hO,hel,Aaz])<;>rfl) (by (simp (disch:=omega) only [push_cast,seval,hO,hel,Aaz])<;>rfl) ?_;(iterate 5 (exact sd));rintro _ _ ⟨x,hx,hx0,rfl,rfl⟩))|((with_reducible refine Azz (f:=41) (args:=[Operand.tmp 66,Operand.tmp 67]) [0,1072] true ?_);simp (disch:=omega) only [push_cast,seval,hO,hel,Aaz];(refine Cwz (id:=0) (id':=1072) (by decide) (D3z _ _ _ _ ?_ ?_ ?_ ?_ ?_) (by (simp (disch:=omega) only [push_cast,seval,hO,hel,Aaz])<;>rfl) (by (simp (disch:=omega) only [push_cast,seval,hO,hel,Aaz])<;>rfl) ?_;(iterate 5 (exact sd));rintro _ _ ⟨x,hx,hx0,rfl,rfl⟩))|((with_reducible refine Azz (f:=41) (args:=[Operand.tmp 69,Operand.tmp 70]) [0,1120] true ?_);simp (disch:=omega) only [push_cast,seval,hO,hel,Aaz];(refine Cwz (id:=0) (id':=1120) (by decide) (D3z _ _ _ _ ?_ ?_ ?_ ?_ ?_) (by (simp (disch:=omega) only [push_cast,seval,hO,hel,Aaz])<;>rfl) (by (simp (disch:=omega) only [push_cast,seval,hO,hel,Aaz])<;>rfl) ?_;(iterate 5 (exact sd));rintro _ _ ⟨x,hx,hx0,rfl,rfl⟩))|((with_reducible refine Azz (f:=41) [0] true ?_);simp (disch:=omega) only [push_cast,seval,hO,hel,Aaz];(refine C8z (id:=0) (Cyz _ _ _ _ ?_ ?_ ?_ ?_ ?_) (by (simp (disch:=omega) only [push_cast,seval,hO,hel,Aaz])<;>rfl) ?_;(iterate 5 (exact sd));rintro _ _ ⟨x,hx,hx0,rfl,rfl⟩))|((with_reducible refine Bpz (f:=41) [0] true ?_);simp (disch:=omega) only [push_cast,seval,hO,hel,Aaz];(refine C5z (id:=0) (Cyz _ _ _ _ ?_ ?_ ?_ ?_ ?_) (by (simp (disch:=omega) only [push_cast,seval,hO,hel,Aaz])<;>rfl) (by decide) (by simp only [Ddz,D5z];exact ⟨_,_,_,List.mem_cons_self,by omega,rfl,rfl⟩) ?_;(iterate 5 (exact sd));rintro _ _ ⟨x,hx,hx0,rfl,rfl⟩)))<;>(try simp (disch:=omega) only [push_cast,seval,hO,hel,Aaz]))
 | ((first|refine Arz false ?_|refine Anz false ?_);simp (disch:=omega) only [push_cast,seval,hO,hel,Aaz])
 | ((first|((first|refine Adz (C1z _ _ _ _ ?_ ?_ ?_) ?_|refine Abz (C1z _ _ _ _ ?_ ?_ ?_) ⟨_,_,rfl,rfl⟩ ?_);(iterate 3 (exact sd));rintro _ _ ⟨rfl,rfl⟩))<;>(try simp (disch:=omega) only [push_cast,seval,hO,hel,Aaz]))))
  all_goals first
    | ((refine Amz ⟨.inr rfl,[720],[],_,by decide,rfl,?_⟩;(try simp (disch:=omega) only [push_cast,seval,↓Aoz,↓Alz,↓List.map_cons,↓List.map_nil,hO,Aaz]));exact ⟨_,[_],_,.inl ⟨(by first|rfl|omega),_,rfl⟩,by omega,rfl,rfl⟩)
    | ((refine Amz ⟨.inr rfl,[928],[],_,by decide,rfl,?_⟩;(try simp (disch:=omega) only [push_cast,seval,↓Aoz,↓Alz,↓List.map_cons,↓List.map_nil,hO,Aaz]));exact ⟨_,[_,_,_],_,.inr (.inl ⟨(by first|rfl|omega),_,_,_,rfl⟩),by omega,rfl,rfl⟩)
    | ((refine Amz ⟨.inr rfl,[1152],[],_,by decide,rfl,?_⟩;(try simp (disch:=omega) only [push_cast,seval,↓Aoz,↓Alz,↓List.map_cons,↓List.map_nil,hO,Aaz]));exact ⟨_,[_,_,_,_],_,.inr (.inr (.inl ⟨(by first|rfl|omega),_,_,_,_,rfl⟩)),by omega,rfl,rfl⟩)
    | ((refine Amz ⟨.inr rfl,[1280],[],_,by decide,rfl,?_⟩;(try simp (disch:=omega) only [push_cast,seval,↓Aoz,↓Alz,↓List.map_cons,↓List.map_nil,hO,Aaz]));exact ⟨_,[_,_],_,.inr (.inr (.inr (.inr (.inl ⟨(by first|rfl|omega),_,_,rfl⟩)))),by omega,rfl,rfl⟩)
    | ((refine Amz ⟨.inr rfl,[1472],[],_,by decide,rfl,?_⟩;(try simp (disch:=omega) only [push_cast,seval,↓Aoz,↓Alz,↓List.map_cons,↓List.map_nil,hO,Aaz]));exact ⟨_,[_,_],_,.inr (.inr (.inr (.inr (.inr (.inl ⟨(by first|rfl|omega),_,_,rfl⟩))))),by omega,rfl,rfl⟩)
    | ((refine Amz ⟨.inr rfl,[592],[],_,by decide,rfl,?_⟩;(try simp (disch:=omega) only [push_cast,seval,↓Aoz,↓Alz,↓List.map_cons,↓List.map_nil,hO,Aaz]));exact ⟨_,[_],_,actK_rest hx (by omega),by omega,rfl,rfl⟩)
    | skip

end Go.Proofs.YtkpcjppnjmhanaaDoor
namespace Go.Proofs.YtkpcjppnjmhanaaDoor
open VwM Vw Go
variable [SentA]

set_option maxHeartbeats 16000000 in
theorem goodB_ok (bs:List Int) (p:Int) (hbs:okB bs) (hp:0 ≤ p ∧ p ≤ 800000) :
    BCall Tryd.prog 44 [.ref 0 2 0] [RD bs p] (fun r H'=>∃ cs es c p',vB cs es=true ∧ (cs.length ≤ 60 ∧ es.length ≤ 8 ∧ exB 4 es) ∧ (p ≤ p' ∧ p' ≤ p + 110) ∧ r=.agg [.own 1 cs.length 1,.own 2 es.length 5] ∧ H'=[RD bs p',IL cs,EL c es]):=by
  obtain ⟨hp1,hp2⟩:=hp
  refine A5z (pins:=[0]) (pin:=1) l44_eq rfl rfl rfl ?_
  (repeat' (first
 | (first|refine Apz ?_|refine Aiz ?_)
 | ((first|refine Aqz ?_|refine A2z (mid:=l44r4a) (post:=l44r4b) [48,1000000017,1000000019] Axz (by decide) ?_|refine Ahz ?_|refine Ajz ?_|refine Akz ?_);simp (disch:=omega) only [push_cast,seval,l44r0,l44r1,l44r2,l44r3,l44r4a,l44r4b,l44r4,l44r5,l44r6,Aaz])
 | ((first|refine Acz ?_ ?_|refine Agz ?_ ?_|refine Afz ?_ ?_)<;>intro h<;>(try simp only [h])<;>(try simp only [bitvec_to_nat] at h)<;>(try simp only [h])<;>(first|(exfalso;omega)|(exfalso;simp_all;done)|(simp (disch:=omega) only [push_cast,seval,Aaz])|skip))
 | ((first|((with_reducible refine Azz (f:=41) (args:=[Operand.tmp 5,Operand.tmp 6]) [0,96] true ?_);simp (disch:=omega) only [push_cast,seval,Aaz];(refine Cwz (id:=0) (id':=96) (by decide) (D3z _ _ _ _ ?_ ?_ ?_ ?_ ?_) (by (simp (disch:=omega) only [push_cast,seval,Aaz])<;>rfl) (by (simp (disch:=omega) only [push_cast,seval,Aaz])<;>rfl) ?_;(iterate 5 (exact sd));rintro _ _ ⟨x,hx,hx0,rfl,rfl⟩))|((with_reducible refine Azz (f:=41) (args:=[Operand.tmp 9,Operand.tmp 10]) [0,160] true ?_);simp (disch:=omega) only [push_cast,seval,Aaz];(refine Cwz (id:=0) (id':=160) (by decide) (D3z _ _ _ _ ?_ ?_ ?_ ?_ ?_) (by (simp (disch:=omega) only [push_cast,seval,Aaz])<;>rfl) (by (simp (disch:=omega) only [push_cast,seval,Aaz])<;>rfl) ?_;(iterate 5 (exact sd));rintro _ _ ⟨x,hx,hx0,rfl,rfl⟩))|((with_reducible refine Azz (f:=41) [0] true ?_);simp (disch:=omega) only [push_cast,seval,Aaz];(refine C8z (id:=0) (Cyz _ _ _ _ ?_ ?_ ?_ ?_ ?_) (by (simp (disch:=omega) only [push_cast,seval,Aaz])<;>rfl) ?_;(iterate 5 (exact sd));rintro _ _ ⟨x,hx,hx0,rfl,rfl⟩))|((with_reducible refine Bpz (f:=41) [0] true ?_);simp (disch:=omega) only [push_cast,seval,Aaz];(refine C5z (id:=0) (Cyz _ _ _ _ ?_ ?_ ?_ ?_ ?_) (by (simp (disch:=omega) only [push_cast,seval,Aaz])<;>rfl) (by decide) (by simp only [Ddz,D5z];exact ⟨_,_,_,List.mem_cons_self,by omega,rfl,rfl⟩) ?_;(iterate 5 (exact sd));rintro _ _ ⟨x,hx,hx0,rfl,rfl⟩))|((with_reducible refine Azz (f:=60) [0,9000,9001] true ?_);simp (disch:=omega) only [push_cast,seval,Aaz];(refine Gmz (by decide) (Dhz _ _ _ _ _ _ ?_ ?_ ?_ ?_ ?_) (by (simp (disch:=omega) only [push_cast,seval,Aaz])<;>rfl) ?_;(iterate 5 (exact sd));rintro _ _ ⟨kA,nums,pA,hkA,hpA,rfl,rfl⟩))|((with_reducible refine Bpz (f:=60) [0,9000,9001] true ?_);simp (disch:=omega) only [push_cast,seval,Aaz];(refine Ktz (by decide) (Dhz _ _ _ _ _ _ ?_ ?_ ?_ ?_ ?_) (by (simp (disch:=omega) only [push_cast,seval,Aaz])<;>rfl) (by decide) ⟨_,_,0,[0],_,.inl ⟨rfl,0,rfl⟩,⟨Int.le_refl _,by omega⟩,rfl,rfl⟩ ?_;(iterate 5 (exact sd));rintro _ _ ⟨kA,nums,pA,hkA,hpA,rfl,rfl⟩))|((with_reducible refine Azz (f:=59) [9000,9001,320] true ?_);simp (disch:=omega) only [push_cast,seval,Aaz];(refine Gmz (by decide) (Ijz _ _ _ _ _ _ _ ?_ ?_ ?_ ?_ ?_) (by (simp (disch:=omega) only [push_cast,seval,Aaz])<;>rfl) ?_;(iterate 5 (exact sd));rintro _ _ (⟨sa,rfl,rfl⟩|⟨csA,esA,sa,hvA,rfl,rfl⟩))))<;>(try simp (disch:=omega) only [push_cast,seval,Aaz]))
 | ((first|refine Arz false ?_|refine Anz false ?_);simp (disch:=omega) only [push_cast,seval,Aaz])
 | ((first|((first|refine Adz (Djz _) ?_|refine Abz (Djz _) ⟨_,_,rfl,rfl⟩ ?_);rintro _ _ ⟨rfl,rfl⟩))<;>(try simp (disch:=omega) only [push_cast,seval,Aaz]))))
  rename_i y hy hy0
  have hN:=nbN_le y
  have hv0:vB (List.replicate (nbN y) 0) []=true:=by
    rw [Fmz]
    exact ⟨Dzz.2 ⟨by simpa using hN,fun v hv=>by rw [(List.mem_replicate.1 hv).2];omega⟩,Nat.zero_le _,fun i e he=>by simp at he⟩
  have hx8:0 ≤ x ∧ x ≤ 8:=by
    simp only [Ddz,D5z,List.mem_cons,List.not_mem_nil,or_false] at hx
    omega
  refine Epz (fun z:List Int × List Ex × Bool × Int × Int=>mkS [(0,.ref 0 2 0),(2,.ref 32 2 0),(3,.ref 48 2 0),(4,.int .i64 z.2.2.2.1)] [(0,RD bs z.2.2.2.2),(32,[.val (.slice none 0 0),.val (.slice none 0 0)]),(48,[.own 9000 z.1.length 1,.own 9001 z.2.1.length 5]),(9000,IL z.1),(9001,EL z.2.2.1 z.2.1)]) (fun z=>vB z.1 z.2.1=true ∧ (0 ≤ z.2.2.2.1 ∧ z.2.2.2.1 ≤ 8) ∧ p ≤ z.2.2.2.2 ∧ z.2.2.2.2 + 10 * z.2.2.2.1 ≤ p + 100) (fun z=>z.2.2.2.1.toNat) (List.replicate (nbN y) 0,[],true,x,p + 1 + 1) ⟨hv0,hx8,by simp only;omega,by simp only;omega⟩ ?_ ?_
  · refine SubW.mk2 128 9000 129 9001 (by omega) ?_
    simp only [List.map_cons,List.map_nil,AV.sw,swL,Kjz,swp,↓reduceIte,Nat.reduceEqDiff]
    (refine Sub.of_lists ?_ ?_ ?_ ?_ ?_<;>simp [Vw.mkS,Vw.lk,Vw.hk,AV.inn,innL,Avz,Atz,Ayz,-List.map_set,-List.getD_eq_getElem?_getD,EL])
  · rintro ⟨cs,es,c,n,q⟩ ⟨hv,hn,hq1,hq2⟩
    simp only at hv hn hq1 hq2 ⊢
    have hel:=A6z c es
    by_cases hlt:n > 0
    · (repeat' (first
 | (first|refine Apz ?_|refine Aiz ?_)
 | ((first|refine Aqz ?_|refine Ahz ?_|refine Ajz ?_|refine Akz ?_);simp (disch:=omega) only [push_cast,seval,l44r0,l44r1,l44r2,l44r3,l44r4a,l44r4b,l44r4,l44r5,l44r6,hlt,hel,Aaz])
 | ((first|refine Acz ?_ ?_|refine Agz ?_ ?_|refine Afz ?_ ?_)<;>intro h<;>(try simp only [h])<;>(try simp only [bitvec_to_nat] at h)<;>(try simp only [h])<;>(first|(exfalso;omega)|(exfalso;simp_all;done)|(simp (disch:=omega) only [push_cast,seval,hlt,hel,Aaz])|skip))
 | ((first|((with_reducible refine Azz (f:=41) (args:=[Operand.tmp 5,Operand.tmp 6]) [0,96] true ?_);simp (disch:=omega) only [push_cast,seval,hlt,hel,Aaz];(refine Cwz (id:=0) (id':=96) (by decide) (D3z _ _ _ _ ?_ ?_ ?_ ?_ ?_) (by (simp (disch:=omega) only [push_cast,seval,hlt,hel,Aaz])<;>rfl) (by (simp (disch:=omega) only [push_cast,seval,hlt,hel,Aaz])<;>rfl) ?_;(iterate 5 (exact sd));rintro _ _ ⟨x,hx,hx0,rfl,rfl⟩))|((with_reducible refine Azz (f:=41) (args:=[Operand.tmp 9,Operand.tmp 10]) [0,160] true ?_);simp (disch:=omega) only [push_cast,seval,hlt,hel,Aaz];(refine Cwz (id:=0) (id':=160) (by decide) (D3z _ _ _ _ ?_ ?_ ?_ ?_ ?_) (by (simp (disch:=omega) only [push_cast,seval,hlt,hel,Aaz])<;>rfl) (by (simp (disch:=omega) only [push_cast,seval,hlt,hel,Aaz])<;>rfl) ?_;(iterate 5 (exact sd));rintro _ _ ⟨x,hx,hx0,rfl,rfl⟩))|((with_reducible refine Azz (f:=41) [0] true ?_);simp (disch:=omega) only [push_cast,seval,hlt,hel,Aaz];(refine C8z (id:=0) (Cyz _ _ _ _ ?_ ?_ ?_ ?_ ?_) (by (simp (disch:=omega) only [push_cast,seval,hlt,hel,Aaz])<;>rfl) ?_;(iterate 5 (exact sd));rintro _ _ ⟨x,hx,hx0,rfl,rfl⟩))|((with_reducible refine Bpz (f:=41) [0] true ?_);simp (disch:=omega) only [push_cast,seval,hlt,hel,Aaz];(refine C5z (id:=0) (Cyz _ _ _ _ ?_ ?_ ?_ ?_ ?_) (by (simp (disch:=omega) only [push_cast,seval,hlt,hel,Aaz])<;>rfl) (by decide) (by simp only [Ddz,D5z];exact ⟨_,_,_,List.mem_cons_self,by omega,rfl,rfl⟩) ?_;(iterate 5 (exact sd));rintro _ _ ⟨x,hx,hx0,rfl,rfl⟩))|((with_reducible refine Azz (f:=60) [0,9000,9001] true ?_);simp (disch:=omega) only [push_cast,seval,hlt,hel,Aaz];(refine Gmz (by decide) (Dhz _ _ _ _ _ _ ?_ ?_ ?_ ?_ ?_) (by (simp (disch:=omega) only [push_cast,seval,hlt,hel,Aaz])<;>rfl) ?_;(iterate 5 (exact sd));rintro _ _ ⟨kA,nums,pA,hkA,hpA,rfl,rfl⟩))|((with_reducible refine Bpz (f:=60) [0,9000,9001] true ?_);simp (disch:=omega) only [push_cast,seval,hlt,hel,Aaz];(refine Ktz (by decide) (Dhz _ _ _ _ _ _ ?_ ?_ ?_ ?_ ?_) (by (simp (disch:=omega) only [push_cast,seval,hlt,hel,Aaz])<;>rfl) (by decide) ⟨_,_,0,[0],_,.inl ⟨rfl,0,rfl⟩,⟨Int.le_refl _,by omega⟩,rfl,rfl⟩ ?_;(iterate 5 (exact sd));rintro _ _ ⟨kA,nums,pA,hkA,hpA,rfl,rfl⟩))|((with_reducible refine Azz (f:=59) [9000,9001,320] true ?_);simp (disch:=omega) only [push_cast,seval,hlt,hel,Aaz];(refine Gmz (by decide) (Ijz _ _ _ _ _ _ _ ?_ ?_ ?_ ?_ ?_) (by (simp (disch:=omega) only [push_cast,seval,hlt,hel,Aaz])<;>rfl) ?_;(iterate 5 (exact sd));rintro _ _ (⟨sa,rfl,rfl⟩|⟨csA,esA,sa,hvA,rfl,rfl⟩))))<;>(try simp (disch:=omega) only [push_cast,seval,hlt,hel,Aaz]))
 | ((first|refine Arz false ?_|refine Anz false ?_);simp (disch:=omega) only [push_cast,seval,hlt,hel,Aaz])
 | ((first|((first|refine Adz (Djz _) ?_|refine Abz (Djz _) ⟨_,_,rfl,rfl⟩ ?_);rintro _ _ ⟨rfl,rfl⟩))<;>(try simp (disch:=omega) only [push_cast,seval,hlt,hel,Aaz]))))
      refine awp_drawW (a:=l44r4a.take 4) (nth l44r4a 4) (b:=l44r4a.drop 5) (post:=l44r4b) [0,9000,9001] [48] rfl Axz (by decide) ?_
      simp (disch:=omega) only [push_cast,seval,l44r0,l44r1,l44r2,l44r3,l44r4a,l44r4b,l44r4,l44r5,l44r6,List.take_succ_cons,List.take_zero,List.drop_succ_cons,List.drop_zero,nth]
      (repeat' (first
 | (first|refine Apz ?_|refine Aiz ?_)
 | ((first|refine Aqz ?_|refine Ahz ?_|refine Ajz ?_|refine Akz ?_);simp (disch:=omega) only [push_cast,seval,l44r0,l44r1,l44r2,l44r3,l44r4a,l44r4b,l44r4,l44r5,l44r6,hlt,hel,Aaz])
 | ((first|refine Acz ?_ ?_|refine Agz ?_ ?_|refine Afz ?_ ?_)<;>intro h<;>(try simp only [h])<;>(try simp only [bitvec_to_nat] at h)<;>(try simp only [h])<;>(first|(exfalso;omega)|(exfalso;simp_all;done)|(simp (disch:=omega) only [push_cast,seval,hlt,hel,Aaz])|skip))
 | ((first|((with_reducible refine Azz (f:=60) [0,9000,9001] true ?_);simp (disch:=omega) only [push_cast,seval,hlt,hel,Aaz];(refine Gmz (by decide) (Dhz _ _ _ _ _ _ ?_ ?_ ?_ ?_ ?_) (by (simp (disch:=omega) only [push_cast,seval,hlt,hel,Aaz])<;>rfl) ?_;(iterate 5 (exact sd));rintro _ _ ⟨kA,nums,pA,hkA,hpA,rfl,rfl⟩))|((with_reducible refine Bpz (f:=60) [0,9000,9001] true ?_);simp (disch:=omega) only [push_cast,seval,hlt,hel,Aaz];(refine Ktz (by decide) (Dhz _ _ _ _ _ _ ?_ ?_ ?_ ?_ ?_) (by (simp (disch:=omega) only [push_cast,seval,hlt,hel,Aaz])<;>rfl) (by decide) ⟨_,_,0,[0],_,.inl ⟨rfl,0,rfl⟩,⟨Int.le_refl _,by omega⟩,rfl,rfl⟩ ?_;(iterate 5 (exact sd));rintro _ _ ⟨kA,nums,pA,hkA,hpA,rfl,rfl⟩))|((with_reducible refine Azz (f:=59) [9000,9001,320] true ?_);simp (disch:=omega) only [push_cast,seval,hlt,hel,Aaz];(refine Gmz (by decide) (Ijz _ _ _ _ _ _ _ ?_ ?_ ?_ ?_ ?_) (by (simp (disch:=omega) only [push_cast,seval,hlt,hel,Aaz])<;>rfl) ?_;(iterate 5 (exact sd));rintro _ _ (⟨sa,rfl,rfl⟩|⟨csA,esA,sa,hvA,rfl,rfl⟩))))<;>(try simp (disch:=omega) only [push_cast,seval,hlt,hel,Aaz]))
 | ((first|refine Arz false ?_|refine Anz false ?_);simp (disch:=omega) only [push_cast,seval,hlt,hel,Aaz])
 | ((first|((first|refine Adz (Djz _) ?_|refine Abz (Djz _) ⟨_,_,rfl,rfl⟩ ?_);rintro _ _ ⟨rfl,rfl⟩))<;>(try simp (disch:=omega) only [push_cast,seval,hlt,hel,Aaz]))))
      · exact ⟨(cs,es,false,n - 1,pA),⟨hv,by simp only;omega,by simp only;omega,by simp only;omega⟩,by simp only;omega,SubW.of (by (refine Sub.of_lists ?_ ?_ ?_ ?_ ?_<;>simp [Vw.mkS,Vw.lk,Vw.hk,AV.inn,innL,Avz,Atz,Ayz,-List.map_set,-List.getD_eq_getElem?_getD,Aaz]))⟩
      · refine ⟨(csA,esA,true,n - 1,pA),⟨hvA,by simp only;omega,by simp only;omega,by simp only;omega⟩,by simp only;omega,?_⟩
        refine SubW.mk2 336 9000 337 9001 (by omega) ?_
        simp only [List.map_cons,List.map_nil,AV.sw,swL,Kjz,Inz,swp,↓reduceIte,Nat.reduceEqDiff]
        (refine Sub.of_lists ?_ ?_ ?_ ?_ ?_<;>simp [Vw.mkS,Vw.lk,Vw.hk,AV.inn,innL,Avz,Atz,Ayz,-List.map_set,-List.getD_eq_getElem?_getD,Aaz])
    · (repeat' (first
 | (first|refine Apz ?_|refine Aiz ?_)
 | ((first|refine Aqz ?_|refine Ahz ?_|refine Ajz ?_|refine Akz ?_);simp (disch:=omega) only [push_cast,seval,l44r0,l44r1,l44r2,l44r3,l44r4a,l44r4b,l44r4,l44r5,l44r6,hlt,hel,Aaz])
 | ((first|refine Acz ?_ ?_|refine Agz ?_ ?_|refine Afz ?_ ?_)<;>intro h<;>(try simp only [h])<;>(try simp only [bitvec_to_nat] at h)<;>(try simp only [h])<;>(first|(exfalso;omega)|(exfalso;simp_all;done)|(simp (disch:=omega) only [push_cast,seval,hlt,hel,Aaz])|skip))
 | ((first|((with_reducible refine Azz (f:=41) (args:=[Operand.tmp 5,Operand.tmp 6]) [0,96] true ?_);simp (disch:=omega) only [push_cast,seval,hlt,hel,Aaz];(refine Cwz (id:=0) (id':=96) (by decide) (D3z _ _ _ _ ?_ ?_ ?_ ?_ ?_) (by (simp (disch:=omega) only [push_cast,seval,hlt,hel,Aaz])<;>rfl) (by (simp (disch:=omega) only [push_cast,seval,hlt,hel,Aaz])<;>rfl) ?_;(iterate 5 (exact sd));rintro _ _ ⟨x,hx,hx0,rfl,rfl⟩))|((with_reducible refine Azz (f:=41) (args:=[Operand.tmp 9,Operand.tmp 10]) [0,160] true ?_);simp (disch:=omega) only [push_cast,seval,hlt,hel,Aaz];(refine Cwz (id:=0) (id':=160) (by decide) (D3z _ _ _ _ ?_ ?_ ?_ ?_ ?_) (by (simp (disch:=omega) only [push_cast,seval,hlt,hel,Aaz])<;>rfl) (by (simp (disch:=omega) only [push_cast,seval,hlt,hel,Aaz])<;>rfl) ?_;(iterate 5 (exact sd));rintro _ _ ⟨x,hx,hx0,rfl,rfl⟩))|((with_reducible refine Azz (f:=41) [0] true ?_);simp (disch:=omega) only [push_cast,seval,hlt,hel,Aaz];(refine C8z (id:=0) (Cyz _ _ _ _ ?_ ?_ ?_ ?_ ?_) (by (simp (disch:=omega) only [push_cast,seval,hlt,hel,Aaz])<;>rfl) ?_;(iterate 5 (exact sd));rintro _ _ ⟨x,hx,hx0,rfl,rfl⟩))|((with_reducible refine Bpz (f:=41) [0] true ?_);simp (disch:=omega) only [push_cast,seval,hlt,hel,Aaz];(refine C5z (id:=0) (Cyz _ _ _ _ ?_ ?_ ?_ ?_ ?_) (by (simp (disch:=omega) only [push_cast,seval,hlt,hel,Aaz])<;>rfl) (by decide) (by simp only [Ddz,D5z];exact ⟨_,_,_,List.mem_cons_self,by omega,rfl,rfl⟩) ?_;(iterate 5 (exact sd));rintro _ _ ⟨x,hx,hx0,rfl,rfl⟩))|((with_reducible refine Azz (f:=60) [0,9000,9001] true ?_);simp (disch:=omega) only [push_cast,seval,hlt,hel,Aaz];(refine Gmz (by decide) (Dhz _ _ _ _ _ _ ?_ ?_ ?_ ?_ ?_) (by (simp (disch:=omega) only [push_cast,seval,hlt,hel,Aaz])<;>rfl) ?_;(iterate 5 (exact sd));rintro _ _ ⟨kA,nums,pA,hkA,hpA,rfl,rfl⟩))|((with_reducible refine Bpz (f:=60) [0,9000,9001] true ?_);simp (disch:=omega) only [push_cast,seval,hlt,hel,Aaz];(refine Ktz (by decide) (Dhz _ _ _ _ _ _ ?_ ?_ ?_ ?_ ?_) (by (simp (disch:=omega) only [push_cast,seval,hlt,hel,Aaz])<;>rfl) (by decide) ⟨_,_,0,[0],_,.inl ⟨rfl,0,rfl⟩,⟨Int.le_refl _,by omega⟩,rfl,rfl⟩ ?_;(iterate 5 (exact sd));rintro _ _ ⟨kA,nums,pA,hkA,hpA,rfl,rfl⟩))|((with_reducible refine Azz (f:=59) [9000,9001,320] true ?_);simp (disch:=omega) only [push_cast,seval,hlt,hel,Aaz];(refine Gmz (by decide) (Ijz _ _ _ _ _ _ _ ?_ ?_ ?_ ?_ ?_) (by (simp (disch:=omega) only [push_cast,seval,hlt,hel,Aaz])<;>rfl) ?_;(iterate 5 (exact sd));rintro _ _ (⟨sa,rfl,rfl⟩|⟨csA,esA,sa,hvA,rfl,rfl⟩))))<;>(try simp (disch:=omega) only [push_cast,seval,hlt,hel,Aaz]))
 | ((first|refine Arz false ?_|refine Anz false ?_);simp (disch:=omega) only [push_cast,seval,hlt,hel,Aaz])
 | ((first|((first|refine Adz (Djz _) ?_|refine Abz (Djz _) ⟨_,_,rfl,rfl⟩ ?_);rintro _ _ ⟨rfl,rfl⟩))<;>(try simp (disch:=omega) only [push_cast,seval,hlt,hel,Aaz]))
 | (refine Amz ⟨.inr rfl,[9000,9001],[],_,by decide,rfl,?_⟩;(try simp (disch:=omega) only [push_cast,seval,↓Aoz,↓Alz,↓List.map_cons,↓List.map_nil,hlt,hel,Aaz]))))
      all_goals exact ⟨_,_,_,_,hv,Jqz hv,by omega,rfl,rfl⟩

end Go.Proofs.YtkpcjppnjmhanaaDoor
namespace Go.Proofs.YtkpcjppnjmhanaaDoor
open VwM Vw Go
variable [SentA]

theorem zcX0:zcells [AV.int .i64 0,.int .i64 0,.val (.slice none 0 0),.val (.slice none 0 0),.bool false] 1=[AV.int .i64 0,.int .i64 0,.val (.slice none 0 0),.val (.slice none 0 0),.bool false]:=zcX _ _ _ _ _
theorem Lhz (es:List Ex) (a b:Int) (o:Bool):EL false (es ++ [(a,(b,[],[]),o)])=EL false es ++ [.int .i64 a,.int .i64 b,.rows false [] 0,.rows false [] 0,.bool o]:=by rw [Hrz];rfl
abbrev sbP (cs:List Int) (es:List Ex):Prop:=cs.length ≤ 61 ∧ es.length ≤ 9 ∧ exB 4 es
theorem exB_nil1 {es:List Ex} {a b:Int} {o:Bool} (h:exB 4 es):exB 4 (es ++ [(a,(b,[],[]),o)]):=fun e he=>by
  rcases List.mem_append.1 he with h1|h1
  · exact h e h1
  · rw [List.mem_singleton] at h1;subst h1;exact ⟨Nat.zero_le _,Nat.zero_le _⟩


set_option maxHeartbeats 16000000 in
theorem Icz (bs:List Int) (p:Int) (hbs:okB bs) (hp:0 ≤ p ∧ p ≤ 700000) :
    BCall Tryd.prog 24 [.ref 0 2 0] [RD bs p] (fun r H'=>∃ cs es p',sbP cs es ∧ (p ≤ p' ∧ p' ≤ p + 120) ∧ r=.agg [.own 1 cs.length 1,.own 2 es.length 5] ∧ H'=[RD bs p',IL cs,EL false es]):=by
  obtain ⟨hp1,hp2⟩:=hp
  refine A5z (pins:=[0]) (pin:=1) l24_eq rfl rfl rfl ?_
  have helc:=fun (c:Bool) (es:List Ex)=>A6z c es
  (repeat' (first
 | (first|refine Apz ?_|refine Aiz ?_)
 | ((first|refine Aqz ?_|refine A2z (mid:=l24r6a) (post:=l24r6b) [0] Axz (by decide) ?_|refine Ahz ?_|refine Ajz ?_|refine Akz ?_);simp (disch:=omega) only [push_cast,seval,l24r0,l24r1,l24r2,l24r3,l24r4,l24r5,l24r6a,l24r6b,l24r6,l24r7,l24r8,l24r9,Aaz,zcX0])
 | ((first|refine Acz ?_ ?_|refine Agz ?_ ?_|refine Afz ?_ ?_)<;>intro h<;>(try simp only [h])<;>(try simp only [bitvec_to_nat] at h)<;>(try simp only [h])<;>(first|(exfalso;omega)|(exfalso;simp_all;done)|(simp (disch:=omega) only [push_cast,seval,Aaz,zcX0])|skip))
 | ((first|((with_reducible refine Azz (f:=44) [0] true ?_);simp (disch:=omega) only [push_cast,seval,Aaz,zcX0];(refine C8z (id:=0) (goodB_ok _ _ ?_ ?_) (by (simp (disch:=omega) only [push_cast,seval,Aaz,zcX0])<;>rfl) ?_;(iterate 2 (exact sd));rintro _ _ ⟨csG,esG,cG,pG,hvG,⟨hb1,hb2,hb3⟩,hpG,rfl,rfl⟩))|((with_reducible refine Azz (f:=40) [0] true ?_);simp (disch:=omega) only [push_cast,seval,Aaz,zcX0];(refine C8z (id:=0) (Dcz _ _ _ ?_ ?_) (by (simp (disch:=omega) only [push_cast,seval,Aaz,zcX0])<;>rfl) ?_;(iterate 2 (exact sd));rintro _ _ ⟨x,hx0,hx1,rfl,rfl⟩))|((with_reducible refine Bpz (f:=40) [0] true ?_);simp (disch:=omega) only [push_cast,seval,Aaz,zcX0];(refine C5z (id:=0) (Dcz _ _ _ ?_ ?_) (by (simp (disch:=omega) only [push_cast,seval,Aaz,zcX0])<;>rfl) (by decide) ⟨_,_,0,by omega,Or.inr (Or.inr rfl),rfl,rfl⟩ ?_;(iterate 2 (exact sd));rintro _ _ ⟨x,hx0,hx1,rfl,rfl⟩))|((with_reducible refine Azz (f:=41) (args:=[Operand.tmp 19,Operand.tmp 20]) [0,320] true ?_);simp (disch:=omega) only [push_cast,seval,Aaz,zcX0];(refine Cwz (id:=0) (id':=320) (by decide) (D3z _ _ _ _ ?_ ?_ ?_ ?_ ?_) (by (simp (disch:=omega) only [push_cast,seval,Aaz,zcX0])<;>rfl) (by (simp (disch:=omega) only [push_cast,seval,Aaz,zcX0])<;>rfl) ?_;(iterate 5 (exact sd));rintro _ _ ⟨x,hx,hx0,rfl,rfl⟩))|((with_reducible refine Azz (f:=41) [0] true ?_);simp (disch:=omega) only [push_cast,seval,Aaz,zcX0];(refine C8z (id:=0) (Cyz _ _ _ _ ?_ ?_ ?_ ?_ ?_) (by (simp (disch:=omega) only [push_cast,seval,Aaz,zcX0])<;>rfl) ?_;(iterate 5 (exact sd));rintro _ _ ⟨x,hx,hx0,rfl,rfl⟩))|((with_reducible refine Bpz (f:=41) [0] true ?_);simp (disch:=omega) only [push_cast,seval,Aaz,zcX0];(refine C5z (id:=0) (Cyz _ _ _ _ ?_ ?_ ?_ ?_ ?_) (by (simp (disch:=omega) only [push_cast,seval,Aaz,zcX0])<;>rfl) (by decide) (by simp only [Ddz,D5z];exact ⟨_,_,_,List.mem_cons_self,by omega,rfl,rfl⟩) ?_;(iterate 5 (exact sd));rintro _ _ ⟨x,hx,hx0,rfl,rfl⟩)))<;>(try simp (disch:=omega) only [push_cast,seval,Aaz,zcX0]))))
  all_goals refine awp_subW (SubW.toF [81] SubW.rfl') ?_
  all_goals simp only [toFL,List.map_cons,List.map_nil,List.map_append,List.contains_cons,List.contains_nil,Nat.reduceBEq,BEq.rfl,Bool.or_false,Bool.false_eq_true,↓reduceIte,toF_EL,toF]
  all_goals first
    | ((refine Amz ⟨.inr rfl,[80,81],[],_,by decide,rfl,?_⟩;(try simp (disch:=omega) only [push_cast,seval,↓Aoz,↓Alz,↓List.map_cons,↓List.map_nil,Aaz]));exact ⟨csG,esG,_,⟨by omega,by omega,hb3⟩,by omega,rfl,rfl⟩)
    | ((refine Amz ⟨.inr rfl,[80,81],[],_,by decide,rfl,?_⟩;(try simp (disch:=omega) only [push_cast,seval,↓Aoz,↓Alz,↓List.map_cons,↓List.map_nil,Aaz,List.map_append,List.length_append,List.length_map]));refine ⟨csG ++ [256],esG,pG + 1,⟨by rw [List.length_append,List.length_singleton];omega,by omega,hb3⟩,by omega,by rw [List.length_append,List.length_singleton],?_⟩;unfold IL;rw [List.map_append];rfl)
    | ((refine Amz ⟨.inr rfl,[80,81],[],_,by decide,rfl,?_⟩;(try simp (disch:=omega) only [push_cast,seval,↓Aoz,↓Alz,↓List.map_cons,↓List.map_nil,Aaz,List.map_append,List.length_append,List.length_map]));refine ⟨csG,esG ++ [(x,(0,[],[]),true)],pG + 1 + 1,⟨by omega,by rw [List.length_append,List.length_singleton];omega,exB_nil1 hb3⟩,by omega,by rw [List.length_append,List.length_singleton],?_⟩;first|(rw [Lhz];done)|(rw [Lhz];rfl))
    | ((refine Amz ⟨.inr rfl,[80,81],[],_,by decide,rfl,?_⟩;(try simp (disch:=omega) only [push_cast,seval,↓Aoz,↓Alz,↓List.map_cons,↓List.map_nil,Aaz,List.map_append,List.length_append,List.length_map]));refine ⟨csG,esG ++ [(-1,(59,[],[]),true)],pG + 1,⟨by omega,by rw [List.length_append,List.length_singleton];omega,exB_nil1 hb3⟩,by omega,by rw [List.length_append,List.length_singleton],?_⟩;first|(rw [Lhz];done)|(rw [Lhz];rfl))

end Go.Proofs.YtkpcjppnjmhanaaDoor
namespace Go.Proofs.YtkpcjppnjmhanaaDoor
open VwM Vw Go
variable [SentA]

/-- All closed. -/
def cloE (e:Ex):Ex:=(e.1,e.2.1,false)
def cloL (es:List Ex) (i:Nat):List Ex:=(es.take i).map cloE ++ es.drop i
abbrev sbQ (cs:List Int) (es:List Ex):Prop:=(cs.length ≤ 1099511627776 ∧ es.length ≤ 1099511627776 ∧ exB 1099511627776 es) ∧ (cs.length ≤ 1048576 ∧ es.length ≤ 1048576 ∧ exB 1048576 es) ∧ cs.length ≤ 61 ∧ es.length ≤ 9 ∧ exB 4 es
theorem sbQ_of {cs:List Int} {es:List Ex} (h:sbP cs es):sbQ cs es:=⟨⟨by have:=h.1;omega,by have:=h.2.1;omega,fun e he=>by have:=h.2.2 e he;omega⟩,⟨by have:=h.1;omega,by have:=h.2.1;omega,fun e he=>by have:=h.2.2 e he;omega⟩,h⟩


theorem D9z (cs:List Int) (m:Nat) (hm:cs.length=m) (hb:cs.length ≤ 1099511627776 ∧ ([]:List Ex).length ≤ 1099511627776 ∧ exB 1099511627776 []):PCall Tryd.prog 8 [.agg [.rows false (IL cs) m,.rows false [] 0]] (fun r=>r=.bool (vB cs [])):=by
  subst hm
  exact Brz cs [] _ _ rfl rfl hb

end Go.Proofs.YtkpcjppnjmhanaaDoor
namespace Go.Proofs.YtkpcjppnjmhanaaDoor
open VwM Vw Go
variable [SentA]

theorem Byz (xs ys:List Int) (n m:Nat) (hn:xs.length=n) (hm:ys.length=m) (hb:n ≤ 1099511627776 ∧ m ≤ 1099511627776):PCall Tryd.prog 13 [.rows false (IL xs) n,.rows false (IL ys) m] (fun r=>r=.bool (decide (xs=ys))):=by
  subst hn hm
  refine A4z l13_eq rfl ?_
  by_cases hl:xs.length=ys.length
  · have hl':(xs.length:Int)=ys.length:=by omega
    (repeat' (first
 | (first|refine Apz ?_|refine Aiz ?_)
 | ((first|refine Aqz ?_|refine Asz (mid:=l13r5a) (post:=l13r5b) Axz (by decide) ?_|refine Ahz ?_|refine Ajz ?_|refine Akz ?_);simp (disch:=omega) only [push_cast,seval,l13r0,l13r1,l13r2,l13r3,l13r4,l13r5a,l13r5b,l13r5,l13r6,l13r7,l13r8,hl'])
 | ((first|refine Acz ?_ ?_|refine Agz ?_ ?_|refine Afz ?_ ?_)<;>intro h<;>(try simp only [h])<;>(try simp only [bitvec_to_nat] at h)<;>(try simp only [h])<;>(first|(exfalso;omega)|(exfalso;simp_all;done)|(simp (disch:=omega) only [push_cast,seval,hl'])|skip))
 | (refine Amz ⟨.inr rfl,_,rfl,?_⟩;(try simp (disch:=omega) only [push_cast,seval,hl']))))
    refine Bqz (fun k:Nat=>mkS [(0,RI xs),(1,RI ys),(5,.int .i64 k)] []) (fun k=>k ≤ xs.length ∧ ∀ j:Nat,j < k → xs.getD j 0=ys.getD j 0) (fun k=>xs.length - k) 0 ⟨Nat.zero_le _,fun j h=>absurd h (Nat.not_lt_zero _)⟩ ?_ ?_
    · (refine Sub.of_lists ?_ ?_ ?_ ?_ ?_<;>simp [Vw.mkS,Vw.lk,Vw.hk,AV.inn,innL,Avz,Atz,Ayz,-List.map_set,-List.getD_eq_getElem?_getD,hl])
    · rintro k ⟨hk,hj⟩
      by_cases hlt:k < xs.length
      · (repeat' (first
 | (first|refine Apz ?_|refine Aiz ?_)
 | ((first|refine Aqz ?_|refine Asz (mid:=l13r5a) (post:=l13r5b) Axz (by decide) ?_|refine Ahz ?_|refine Ajz ?_|refine Akz ?_);simp (disch:=omega) only [push_cast,seval,l13r0,l13r1,l13r2,l13r3,l13r4,l13r5a,l13r5b,l13r5,l13r6,l13r7,l13r8])
 | ((first|refine Acz ?_ ?_|refine Agz ?_ ?_|refine Afz ?_ ?_)<;>intro h<;>(try simp only [h])<;>(try simp only [bitvec_to_nat] at h)<;>(try simp only [h])<;>(first|(exfalso;omega)|(exfalso;simp_all;done)|(simp (disch:=omega) only [push_cast,seval])|skip))
 | (refine Amz ⟨.inr rfl,_,rfl,?_⟩;(try simp (disch:=omega) only [push_cast,seval]))))
        · simp;rintro rfl;exact absurd rfl ‹_›
        · refine ⟨k + 1,⟨by omega,fun j h=>?_⟩,by omega,?_⟩
          · by_cases hjk:j=k
            · subst hjk;assumption
            · exact hj j (by omega)
          · (refine Sub.of_lists ?_ ?_ ?_ ?_ ?_<;>simp [Vw.mkS,Vw.lk,Vw.hk,AV.inn,innL,Avz,Atz,Ayz,-List.map_set,-List.getD_eq_getElem?_getD])
      · (repeat' (first
 | (first|refine Apz ?_|refine Aiz ?_)
 | ((first|refine Aqz ?_|refine Asz (mid:=l13r5a) (post:=l13r5b) Axz (by decide) ?_|refine Ahz ?_|refine Ajz ?_|refine Akz ?_);simp (disch:=omega) only [push_cast,seval,l13r0,l13r1,l13r2,l13r3,l13r4,l13r5a,l13r5b,l13r5,l13r6,l13r7,l13r8])
 | ((first|refine Acz ?_ ?_|refine Agz ?_ ?_|refine Afz ?_ ?_)<;>intro h<;>(try simp only [h])<;>(try simp only [bitvec_to_nat] at h)<;>(try simp only [h])<;>(first|(exfalso;omega)|(exfalso;simp_all;done)|(simp (disch:=omega) only [push_cast,seval])|skip))
 | (refine Amz ⟨.inr rfl,_,rfl,?_⟩;(try simp (disch:=omega) only [push_cast,seval]))))
        have:xs=ys:=J2z hl fun j h=>hj j (by omega)
        simp [this]
  · have hl':¬ (xs.length:Int)=ys.length:=by omega
    have:¬ xs=ys:=by rintro rfl;exact hl rfl
    (repeat' (first
 | (first|refine Apz ?_|refine Aiz ?_)
 | ((first|refine Aqz ?_|refine Asz (mid:=l13r5a) (post:=l13r5b) Axz (by decide) ?_|refine Ahz ?_|refine Ajz ?_|refine Akz ?_);simp (disch:=omega) only [push_cast,seval,l13r0,l13r1,l13r2,l13r3,l13r4,l13r5a,l13r5b,l13r5,l13r6,l13r7,l13r8,hl'])
 | ((first|refine Acz ?_ ?_|refine Agz ?_ ?_|refine Afz ?_ ?_)<;>intro h<;>(try simp only [h])<;>(try simp only [bitvec_to_nat] at h)<;>(try simp only [h])<;>(first|(exfalso;omega)|(exfalso;simp_all;done)|(simp (disch:=omega) only [push_cast,seval,hl'])|skip))
 | (refine Amz ⟨.inr rfl,_,rfl,?_⟩;(try simp (disch:=omega) only [push_cast,seval,hl']))))
    simp [this]

end Go.Proofs.YtkpcjppnjmhanaaDoor
namespace Go.Proofs.YtkpcjppnjmhanaaDoor
open VwM Vw Go
variable [SentA]

theorem takesL_length (xs at_:List Int):(takesL xs at_).length=at_.length:=by simp [takesL]


theorem Ccz (xs:List Int) (n:Nat) (hn:xs.length=n) (hb:n ≤ 1099511627776 ∧ ∀ i:Nat,1 ≤ i → i < n → xs.getD (i - 1) 0 < xs.getD i 0):PCall Tryd.prog 15 [.rows false (IL xs) n] (fun r=>r=.bool true):=by
  subst hn
  obtain ⟨hb1,hb⟩:=hb
  refine A4z l15_eq rfl ?_
  (repeat' (first
 | (first|refine Apz ?_|refine Aiz ?_)
 | ((first|refine Aqz ?_|refine Asz (mid:=l15r3a) (post:=l15r3b) Axz (by decide) ?_|refine Ahz ?_|refine Ajz ?_|refine Akz ?_);simp (disch:=omega) only [push_cast,seval,l15r0,l15r1,l15r2,l15r3a,l15r3b,l15r3,l15r4,l15r5,l15r6])
 | ((first|refine Acz ?_ ?_|refine Agz ?_ ?_|refine Afz ?_ ?_)<;>intro h<;>(try simp only [h])<;>(try simp only [bitvec_to_nat] at h)<;>(try simp only [h])<;>(first|(exfalso;omega)|(exfalso;simp_all;done)|(simp (disch:=omega) only [push_cast,seval])|skip))
 | (refine Amz ⟨.inr rfl,_,rfl,?_⟩;(try simp (disch:=omega) only [push_cast,seval]))))
  refine Bqz (fun k:Nat=>mkS [(0,RI xs),(3,.int .i64 ((k:Int) + 1))] []) (fun k=>k ≤ xs.length) (fun k=>xs.length - k) 0 (Nat.zero_le _) ?_ ?_
  · (refine Sub.of_lists ?_ ?_ ?_ ?_ ?_<;>simp [Vw.mkS,Vw.lk,Vw.hk,AV.inn,innL,Avz,Atz,Ayz,-List.map_set,-List.getD_eq_getElem?_getD])
  · intro k hk
    by_cases hlt:k + 1 < xs.length
    · have h1:=hb (k + 1) (by omega) hlt
      have h2:¬ xs.getD (k + 1) 0 ≤ xs.getD k 0:=by
        have:k + 1 - 1=k:=by omega
        rw [this] at h1
        omega
      have e1:((k:Int) + 1 - 1).toNat=k:=by omega
      have h3:(k:Int) + 1 < xs.length:=by omega
      (repeat' (first
 | (first|refine Apz ?_|refine Aiz ?_)
 | ((first|refine Aqz ?_|refine Asz (mid:=l15r3a) (post:=l15r3b) Axz (by decide) ?_|refine Ahz ?_|refine Ajz ?_|refine Akz ?_);simp (disch:=omega) only [push_cast,seval,l15r0,l15r1,l15r2,l15r3a,l15r3b,l15r3,l15r4,l15r5,l15r6,h2,e1,h3])
 | ((first|refine Acz ?_ ?_|refine Agz ?_ ?_|refine Afz ?_ ?_)<;>intro h<;>(try simp only [h])<;>(try simp only [bitvec_to_nat] at h)<;>(try simp only [h])<;>(first|(exfalso;omega)|(exfalso;simp_all;done)|(simp (disch:=omega) only [push_cast,seval,h2,e1,h3])|skip))
 | (refine Amz ⟨.inr rfl,_,rfl,?_⟩;(try simp (disch:=omega) only [push_cast,seval,h2,e1,h3]))))
      refine ⟨k + 1,by omega,by omega,?_⟩
      (refine Sub.of_lists ?_ ?_ ?_ ?_ ?_<;>simp [Vw.mkS,Vw.lk,Vw.hk,AV.inn,innL,Avz,Atz,Ayz,-List.map_set,-List.getD_eq_getElem?_getD])
    · have h3:¬ (k:Int) + 1 < xs.length:=by omega
      (repeat' (first
 | (first|refine Apz ?_|refine Aiz ?_)
 | ((first|refine Aqz ?_|refine Asz (mid:=l15r3a) (post:=l15r3b) Axz (by decide) ?_|refine Ahz ?_|refine Ajz ?_|refine Akz ?_);simp (disch:=omega) only [push_cast,seval,l15r0,l15r1,l15r2,l15r3a,l15r3b,l15r3,l15r4,l15r5,l15r6,h3])
 | ((first|refine Acz ?_ ?_|refine Agz ?_ ?_|refine Afz ?_ ?_)<;>intro h<;>(try simp only [h])<;>(try simp only [bitvec_to_nat] at h)<;>(try simp only [h])<;>(first|(exfalso;omega)|(exfalso;simp_all;done)|(simp (disch:=omega) only [push_cast,seval,h3])|skip))
 | (refine Amz ⟨.inr rfl,_,rfl,?_⟩;(try simp (disch:=omega) only [push_cast,seval,h3]))))

end Go.Proofs.YtkpcjppnjmhanaaDoor
namespace Go.Proofs.YtkpcjppnjmhanaaDoor
open VwM Vw Go
variable [SentA]

theorem Gaz (xs:List Int) (n:Nat) (x:Int) (hn:xs.length=n) (hb:n ≤ 1099511627776):PCall Tryd.prog 35 [.rows false (IL xs) n,.int .i64 x] (fun r=>r=.bool (decide (x ∈ xs))):=by
  subst hn
  refine A4z l35_eq rfl ?_
  (repeat' (first
 | (first|refine Apz ?_|refine Aiz ?_)
 | ((first|refine Aqz ?_|refine Ahz ?_|refine Ajz ?_|refine Akz ?_);simp (disch:=omega) only [push_cast,seval,l35r0,l35r1,l35r2,l35r3,l35r4,l35r5,l35r6])
 | ((first|refine Acz ?_ ?_|refine Agz ?_ ?_|refine Afz ?_ ?_)<;>intro h<;>(try simp only [h])<;>(try simp only [bitvec_to_nat] at h)<;>(try simp only [h])<;>(first|(exfalso;omega)|(exfalso;simp_all;done)|(simp (disch:=omega) only [push_cast,seval])|skip))
 | (refine Amz ⟨.inr rfl,_,rfl,?_⟩;(try simp (disch:=omega) only [push_cast,seval]))))
  refine Bqz (fun k:Nat=>mkS [(0,RI xs),(1,.int .i64 x),(5,.int .i64 k)] []) (fun k=>k ≤ xs.length ∧ ∀ j:Nat,j < k → xs.getD j 0 ≠ x) (fun k=>xs.length - k) 0 ⟨Nat.zero_le _,fun j h=>absurd h (Nat.not_lt_zero _)⟩ ?_ ?_
  · (refine Sub.of_lists ?_ ?_ ?_ ?_ ?_<;>simp [Vw.mkS,Vw.lk,Vw.hk,AV.inn,innL,Avz,Atz,Ayz,-List.map_set,-List.getD_eq_getElem?_getD])
  · rintro k ⟨hk,hj⟩
    by_cases hlt:k < xs.length
    · by_cases he:xs.getD k 0=x
      · have hm:x ∈ xs:=by rw [← he];exact C2z hlt
        (repeat' (first
 | (first|refine Apz ?_|refine Aiz ?_)
 | ((first|refine Aqz ?_|refine Ahz ?_|refine Ajz ?_|refine Akz ?_);simp (disch:=omega) only [push_cast,seval,l35r0,l35r1,l35r2,l35r3,l35r4,l35r5,l35r6,he,decide_true])
 | ((first|refine Acz ?_ ?_|refine Agz ?_ ?_|refine Afz ?_ ?_)<;>intro h<;>(try simp only [h])<;>(try simp only [bitvec_to_nat] at h)<;>(try simp only [h])<;>(first|(exfalso;omega)|(exfalso;simp_all;done)|(simp (disch:=omega) only [push_cast,seval,he,decide_true])|skip))
 | (refine Amz ⟨.inr rfl,_,rfl,?_⟩;(try simp (disch:=omega) only [push_cast,seval,he,decide_true]))))
        all_goals simp [hm]
      · (repeat' (first
 | (first|refine Apz ?_|refine Aiz ?_)
 | ((first|refine Aqz ?_|refine Ahz ?_|refine Ajz ?_|refine Akz ?_);simp (disch:=omega) only [push_cast,seval,l35r0,l35r1,l35r2,l35r3,l35r4,l35r5,l35r6,he,decide_false])
 | ((first|refine Acz ?_ ?_|refine Agz ?_ ?_|refine Afz ?_ ?_)<;>intro h<;>(try simp only [h])<;>(try simp only [bitvec_to_nat] at h)<;>(try simp only [h])<;>(first|(exfalso;omega)|(exfalso;simp_all;done)|(simp (disch:=omega) only [push_cast,seval,he,decide_false])|skip))
 | (refine Amz ⟨.inr rfl,_,rfl,?_⟩;(try simp (disch:=omega) only [push_cast,seval,he,decide_false]))))
        refine ⟨k + 1,⟨by omega,fun j h=>?_⟩,by omega,?_⟩
        · by_cases hjk:j=k
          · subst hjk;assumption
          · exact hj j (by omega)
        · (refine Sub.of_lists ?_ ?_ ?_ ?_ ?_<;>simp [Vw.mkS,Vw.lk,Vw.hk,AV.inn,innL,Avz,Atz,Ayz,-List.map_set,-List.getD_eq_getElem?_getD])
    · have hm:x ∉ xs:=fun h=>by
        obtain ⟨j,hj2,e⟩:=mem_getD.1 h
        exact hj j (by omega) e
      (repeat' (first
 | (first|refine Apz ?_|refine Aiz ?_)
 | ((first|refine Aqz ?_|refine Ahz ?_|refine Ajz ?_|refine Akz ?_);simp (disch:=omega) only [push_cast,seval,l35r0,l35r1,l35r2,l35r3,l35r4,l35r5,l35r6])
 | ((first|refine Acz ?_ ?_|refine Agz ?_ ?_|refine Afz ?_ ?_)<;>intro h<;>(try simp only [h])<;>(try simp only [bitvec_to_nat] at h)<;>(try simp only [h])<;>(first|(exfalso;omega)|(exfalso;simp_all;done)|(simp (disch:=omega) only [push_cast,seval])|skip))
 | (refine Amz ⟨.inr rfl,_,rfl,?_⟩;(try simp (disch:=omega) only [push_cast,seval]))))
      all_goals simp [hm]

end Go.Proofs.YtkpcjppnjmhanaaDoor
namespace Go.Proofs.YtkpcjppnjmhanaaDoor
open VwM Vw Go
variable [SentA]

theorem Caz (xs ys:List Int) (n m:Nat) (hn:xs.length=n) (hm:ys.length=m) (hb:(n ≤ 1099511627776 ∧ m ≤ 1099511627776) ∧ ∀ x ∈ xs,x ∈ ys):PCall Tryd.prog 16 [.rows false (IL xs) n,.rows false (IL ys) m] (fun r=>r=.bool true):=by
  subst hn hm
  obtain ⟨⟨hb1,hb2⟩,hb⟩:=hb
  refine A4z l16_eq rfl ?_
  (repeat' (first
 | (first|refine Apz ?_|refine Aiz ?_)
 | ((first|refine Aqz ?_|refine Ahz ?_|refine Ajz ?_|refine Akz ?_);simp (disch:=omega) only [push_cast,seval,l16r0,l16r1,l16r2,l16r3,l16r4,l16r5,l16r6])
 | ((first|refine Acz ?_ ?_|refine Agz ?_ ?_|refine Afz ?_ ?_)<;>intro h<;>(try simp only [h])<;>(try simp only [bitvec_to_nat] at h)<;>(try simp only [h])<;>(first|(exfalso;omega)|(exfalso;simp_all;done)|(simp (disch:=omega) only [push_cast,seval])|skip))
 | ((first|refine Arz false ?_|refine Anz false ?_);simp (disch:=omega) only [push_cast,seval])
 | ((first|((first|refine Adz (Aez (Gaz _ _ _ ?_ ?_)) ?_|refine Abz (Aez (Gaz _ _ _ ?_ ?_)) ⟨_,_,rfl,rfl⟩ ?_);(iterate 2 (exact sd));rintro _ _ ⟨rfl,rfl⟩))<;>(try simp (disch:=omega) only [push_cast,seval]))
 | (refine Amz ⟨.inr rfl,_,rfl,?_⟩;(try simp (disch:=omega) only [push_cast,seval]))))
  refine Bqz (fun k:Nat=>mkS [(0,RI xs),(1,RI ys),(5,.int .i64 k)] []) (fun k=>k ≤ xs.length) (fun k=>xs.length - k) 0 (Nat.zero_le _) ?_ ?_
  · (refine Sub.of_lists ?_ ?_ ?_ ?_ ?_<;>simp [Vw.mkS,Vw.lk,Vw.hk,AV.inn,innL,Avz,Atz,Ayz,-List.map_set,-List.getD_eq_getElem?_getD])
  · intro k hk
    by_cases hlt:k < xs.length
    · have hm:decide (xs.getD k 0 ∈ ys)=true:=decide_eq_true (hb _ (C2z hlt))
      (repeat' (first
 | (first|refine Apz ?_|refine Aiz ?_)
 | ((first|refine Aqz ?_|refine Ahz ?_|refine Ajz ?_|refine Akz ?_);simp (disch:=omega) only [push_cast,seval,l16r0,l16r1,l16r2,l16r3,l16r4,l16r5,l16r6,hm])
 | ((first|refine Acz ?_ ?_|refine Agz ?_ ?_|refine Afz ?_ ?_)<;>intro h<;>(try simp only [h])<;>(try simp only [bitvec_to_nat] at h)<;>(try simp only [h])<;>(first|(exfalso;omega)|(exfalso;simp_all;done)|(simp (disch:=omega) only [push_cast,seval,hm])|skip))
 | ((first|refine Arz false ?_|refine Anz false ?_);simp (disch:=omega) only [push_cast,seval,hm])
 | ((first|((first|refine Adz (Aez (Gaz _ _ _ ?_ ?_)) ?_|refine Abz (Aez (Gaz _ _ _ ?_ ?_)) ⟨_,_,rfl,rfl⟩ ?_);(iterate 2 (exact sd));rintro _ _ ⟨rfl,rfl⟩))<;>(try simp (disch:=omega) only [push_cast,seval,hm]))
 | (refine Amz ⟨.inr rfl,_,rfl,?_⟩;(try simp (disch:=omega) only [push_cast,seval,hm]))))
      refine ⟨k + 1,by omega,by omega,?_⟩
      (refine Sub.of_lists ?_ ?_ ?_ ?_ ?_<;>simp [Vw.mkS,Vw.lk,Vw.hk,AV.inn,innL,Avz,Atz,Ayz,-List.map_set,-List.getD_eq_getElem?_getD])
    · (repeat' (first
 | (first|refine Apz ?_|refine Aiz ?_)
 | ((first|refine Aqz ?_|refine Ahz ?_|refine Ajz ?_|refine Akz ?_);simp (disch:=omega) only [push_cast,seval,l16r0,l16r1,l16r2,l16r3,l16r4,l16r5,l16r6])
 | ((first|refine Acz ?_ ?_|refine Agz ?_ ?_|refine Afz ?_ ?_)<;>intro h<;>(try simp only [h])<;>(try simp only [bitvec_to_nat] at h)<;>(try simp only [h])<;>(first|(exfalso;omega)|(exfalso;simp_all;done)|(simp (disch:=omega) only [push_cast,seval])|skip))
 | ((first|refine Arz false ?_|refine Anz false ?_);simp (disch:=omega) only [push_cast,seval])
 | ((first|((first|refine Adz (Aez (Gaz _ _ _ ?_ ?_)) ?_|refine Abz (Aez (Gaz _ _ _ ?_ ?_)) ⟨_,_,rfl,rfl⟩ ?_);(iterate 2 (exact sd));rintro _ _ ⟨rfl,rfl⟩))<;>(try simp (disch:=omega) only [push_cast,seval]))
 | (refine Amz ⟨.inr rfl,_,rfl,?_⟩;(try simp (disch:=omega) only [push_cast,seval]))))


def viewP (r:AV):Prop:=∃ b sh st k1 k2,(sh.length=k1 ∧ st.length=k2 ∧ sh.length ≤ 100 ∧ st.length ≤ 100) ∧ r=.agg [.int .i64 b,.rows true (IL sh) k1,.rows true (IL st) k2]
def viewB (r:AV) (H':List (List AV)):Prop:=∃ b sh st,(sh.length ≤ 100 ∧ st.length ≤ 100) ∧ r=.agg [.int .i64 b,.own 0 sh.length 1,.own 1 st.length 1] ∧ H'=[IL sh,IL st]
end Go.Proofs.YtkpcjppnjmhanaaDoor
namespace Go.Proofs.YtkpcjppnjmhanaaDoor
open VwM Vw Go
variable [SentA]

end Go.Proofs.YtkpcjppnjmhanaaDoor
namespace Go.Proofs.YtkpcjppnjmhanaaDoor
open VwM Vw Go
variable [SentA]

abbrev rbQ (cs:List Int) (es:List Ex) (s:Int):Prop:=((ifB (rzG cs es s) (zz cs s.toNat)).length ≤ 1099511627776 ∧ (ifB (rzG cs es s) es).length ≤ 1099511627776 ∧ exB 1099511627776 (ifB (rzG cs es s) es)) ∧ (opensA cs es).length ≤ es.length ∧ -1000 ≤ s ∧ s ≤ 1000
theorem Ctz (cs:List Int) (es:List Ex) (m n:Nat) (hm:cs.length=m) (hn:es.length=n) (hb:m ≤ 1099511627776 ∧ n ≤ 1099511627776 ∧ exB 1099511627776 es) :
    PCall Tryd.prog 10 [.agg [.rows false (IL cs) m,.rows false (EL false es) n]] (fun r=>r=.rows true (IL (opensA cs es)) (opensA cs es).length):=by
  refine (BCall.plain (iOpen_ok cs es m n hm hn hb)).mono ?_
  rintro r ⟨r0,H',⟨rfl,rfl⟩,rfl⟩
  simp [AV.ren,nthH,List.map_map,Function.comp_def]


end Go.Proofs.YtkpcjppnjmhanaaDoor
