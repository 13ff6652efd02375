/- Texts of this verifier. -/
import Derived.Test.YtfccepgibbdfaaaDoorCB7
import Derived.Test.YtfccepgibbdfaaaDoorCM1
import Derived.Test.YtfccepgibbdfaaaDoorCW3
set_option maxHeartbeats 4000000
set_option linter.unusedSimpArgs false
set_option linter.unusedSectionVars false
set_option linter.unusedVariables false
set_option maxRecDepth 4000
namespace Go.Proofs.YtfccepgibbdfaaaDoor
open VwM Vw Go
variable [PowA]

set_option maxHeartbeats 16000000 in
theorem goodB_ok (bs:List Int) (p:Int) (hbs:okB bs) (hp:0 ≤ p ∧ p ≤ 800000) :
    BCall Tryd.prog 22 [.ref 0 2 0] [RD bs p] (fun r H'=>∃ cs es c p',vB cs es=true ∧ (cs.length ≤ 60 ∧ es.length ≤ 8 ∧ exB 4 es) ∧ (p ≤ p' ∧ p' ≤ p + 110) ∧ r=.agg [.own 1 cs.length 1,.own 2 es.length 5] ∧ H'=[RD bs p',IL cs,EL c es]):=by
  obtain ⟨hp1,hp2⟩:=hp
  refine Axz (pins:=[0]) (pin:=1) l22_eq rfl rfl rfl ?_
  (repeat' (first
 | (first|refine Ahz ?_|refine Abz ?_)
 | ((first|refine Aiz ?_);simp (disch:=omega) only [push_cast,seval,l22r0,l22r1,l22r2,l22r3,l22r4a,l22r4b,l22r4,l22r5,l22r6,Aaz])
 | ((first|((with_reducible refine Ayz (f:=32) (args:=[Operand.tmp 5,Operand.tmp 6]) [0,96] true ?_);simp (disch:=omega) only [push_cast,seval,Aaz];(refine B6z (id:=0) (id':=96) (by decide) (Cpz _ _ _ _ ?_ ?_ ?_ ?_ ?_) (by (simp (disch:=omega) only [push_cast,seval,Aaz])<;>rfl) (by (simp (disch:=omega) only [push_cast,seval,Aaz])<;>rfl) ?_;(iterate 5 (exact sd));rintro _ _ ⟨x,hx,hx0,rfl,rfl⟩))|((with_reducible refine Ayz (f:=32) (args:=[Operand.tmp 9,Operand.tmp 10]) [0,160] true ?_);simp (disch:=omega) only [push_cast,seval,Aaz];(refine B6z (id:=0) (id':=160) (by decide) (Cpz _ _ _ _ ?_ ?_ ?_ ?_ ?_) (by (simp (disch:=omega) only [push_cast,seval,Aaz])<;>rfl) (by (simp (disch:=omega) only [push_cast,seval,Aaz])<;>rfl) ?_;(iterate 5 (exact sd));rintro _ _ ⟨x,hx,hx0,rfl,rfl⟩)))<;>(try simp (disch:=omega) only [push_cast,seval,Aaz]))
 | ((first|refine Alz false ?_);simp (disch:=omega) only [push_cast,seval,Aaz])
 | ((first|((first|refine Akz (Hiz _) ?_|refine Agz (Hiz _) ⟨_,_,rfl,rfl⟩ ?_);rintro _ _ ⟨rfl,rfl⟩))<;>(try simp (disch:=omega) only [push_cast,seval,Aaz]))))
  rename_i y hy hy0
  have hN:=nbN_le y
  have hv0:vB (List.replicate (nbN y) 0) []=true:=by
    rw [Ebz]
    exact ⟨Chz.2 ⟨by simpa using hN,fun v hv=>by rw [(List.mem_replicate.1 hv).2];omega⟩,Nat.zero_le _,fun i e he=>by simp at he⟩
  have hx8:0 ≤ x ∧ x ≤ 8:=by
    simp only [Fuz,H7z,List.mem_cons,List.not_mem_nil,or_false] at hx
    omega
  refine G3z (fun z:List Int × List Ex × Bool × Int × Int=>mkS [(0,.ref 0 2 0),(2,.ref 32 2 0),(3,.ref 48 2 0),(4,.int .i64 z.2.2.2.1)] [(0,RD bs z.2.2.2.2),(32,[.val (.slice none 0 0),.val (.slice none 0 0)]),(48,[.own 9000 z.1.length 1,.own 9001 z.2.1.length 5]),(9000,IL z.1),(9001,EL z.2.2.1 z.2.1)]) (fun z=>vB z.1 z.2.1=true ∧ (0 ≤ z.2.2.2.1 ∧ z.2.2.2.1 ≤ 8) ∧ p ≤ z.2.2.2.2 ∧ z.2.2.2.2 + 10 * z.2.2.2.1 ≤ p + 100) (fun z=>z.2.2.2.1.toNat) (List.replicate (nbN y) 0,[],true,x,p + 1 + 1) ⟨hv0,hx8,by simp only;omega,by simp only;omega⟩ ?_ ?_
  · refine SubW.mk2 128 9000 129 9001 (by omega) ?_
    simp only [List.map_cons,List.map_nil,AV.sw,swL,H9z,swp,↓reduceIte,Nat.reduceEqDiff]
    (refine Sub.of_lists ?_ ?_ ?_ ?_ ?_<;>simp [Vw.mkS,Vw.lk,Vw.hk,AV.inn,innL,Arz,Anz,Asz,-List.map_set,-List.getD_eq_getElem?_getD,EL])
  · rintro ⟨cs,es,c,n,q⟩ ⟨hv,hn,hq1,hq2⟩
    simp only at hv hn hq1 hq2 ⊢
    have hel:=A0z c es
    by_cases hlt:n > 0
    · (repeat' (first
 | (first|refine Ahz ?_|refine Abz ?_)
 | ((first|refine Aiz ?_|refine Afz ?_|refine Aoz ?_);simp (disch:=omega) only [push_cast,seval,l22r0,l22r1,l22r2,l22r3,l22r4a,l22r4b,l22r4,l22r5,l22r6,hlt,hel,Aaz])))
      refine awp_drawW (a:=l22r4a.take 4) (nth l22r4a 4) (b:=l22r4a.drop 5) (post:=l22r4b) [0,9000,9001] [48] rfl Baz (by decide) ?_
      simp (disch:=omega) only [push_cast,seval,l22r0,l22r1,l22r2,l22r3,l22r4a,l22r4b,l22r4,l22r5,l22r6,List.take_succ_cons,List.take_zero,List.drop_succ_cons,List.drop_zero,nth]
      (repeat' (first
 | (first|refine Ahz ?_|refine Abz ?_)
 | ((first|refine Aiz ?_);simp (disch:=omega) only [push_cast,seval,l22r0,l22r1,l22r2,l22r3,l22r4a,l22r4b,l22r4,l22r5,l22r6,hlt,hel,Aaz])
 | ((first|((with_reducible refine qcallI_of (f:=30) [0,9000,9001] true ?_);simp (disch:=omega) only [push_cast,seval,hlt,hel,Aaz];(refine qcallND (by decide) (someAct_ok _ _ _ _ _ _ ?_ ?_ ?_ ?_ ?_) (by (simp (disch:=omega) only [push_cast,seval,hlt,hel,Aaz])<;>rfl) (by decide) ⟨_,_,0,[0],_,.inl ⟨rfl,0,rfl⟩,⟨Int.le_refl _,by omega⟩,rfl,rfl⟩ ?_;(iterate 5 (exact sd));rintro _ _ ⟨kA,nums,pA,hkA,hpA,rfl,rfl⟩))|((with_reducible refine Ayz (f:=34) [9000,9001,320] true ?_);simp (disch:=omega) only [push_cast,seval,hlt,hel,Aaz];(refine callND (by decide) (apply_ok _ _ _ _ _ _ _ ?_ ?_ ?_ ?_ ?_) (by (simp (disch:=omega) only [push_cast,seval,hlt,hel,Aaz])<;>rfl) ?_;(iterate 5 (exact sd));rintro _ _ (⟨sa,rfl,rfl⟩|⟨csA,esA,sa,hvA,rfl,rfl⟩))))<;>(try simp (disch:=omega) only [push_cast,seval,hlt,hel,Aaz]))))
      · exact ⟨(cs,es,false,n - 1,pA),⟨hv,by simp only;omega,by simp only;omega,by simp only;omega⟩,by simp only;omega,SubW.of (by (refine Sub.of_lists ?_ ?_ ?_ ?_ ?_<;>simp [Vw.mkS,Vw.lk,Vw.hk,AV.inn,innL,Arz,Anz,Asz,-List.map_set,-List.getD_eq_getElem?_getD,Aaz]))⟩
      · refine ⟨(csA,esA,true,n - 1,pA),⟨hvA,by simp only;omega,by simp only;omega,by simp only;omega⟩,by simp only;omega,?_⟩
        refine SubW.mk2 336 9000 337 9001 (by omega) ?_
        simp only [List.map_cons,List.map_nil,AV.sw,swL,H9z,swL_EL,swp,↓reduceIte,Nat.reduceEqDiff]
        (refine Sub.of_lists ?_ ?_ ?_ ?_ ?_<;>simp [Vw.mkS,Vw.lk,Vw.hk,AV.inn,innL,Arz,Anz,Asz,-List.map_set,-List.getD_eq_getElem?_getD,Aaz])
    · (repeat' (first
 | (first|refine Ahz ?_|refine Abz ?_)
 | ((first|refine Aiz ?_|refine Afz ?_|refine A7z ?_);simp (disch:=omega) only [push_cast,seval,l22r0,l22r1,l22r2,l22r3,l22r4a,l22r4b,l22r4,l22r5,l22r6,hlt,hel,Aaz])
 | (refine Adz ⟨.inr rfl,[9000,9001],[],_,by decide,rfl,?_⟩;(try simp (disch:=omega) only [push_cast,seval,↓Aez,↓Acz,↓List.map_cons,↓List.map_nil,hlt,hel,Aaz]))))
      all_goals exact ⟨_,_,_,_,hv,Hez hv,by omega,rfl,rfl⟩

end Go.Proofs.YtfccepgibbdfaaaDoor
namespace Go.Proofs.YtfccepgibbdfaaaDoor
open VwM Vw Go
variable [PowA]

theorem actK_len {k:Int} {nums:List Int} (h:actK k nums):1 ≤ nums.length ∧ nums.length ≤ 4:=by
  rcases h with h|h|h|h|h|h|h|h
  · obtain ⟨_,a,rfl⟩:=h;exact ⟨by simp,by simp⟩
  · obtain ⟨_,a,b,c,rfl⟩:=h;exact ⟨by simp,by simp⟩
  · obtain ⟨_,a,b,c,d,rfl⟩:=h;exact ⟨by simp,by simp⟩
  · obtain ⟨_,a,rfl⟩:=h;exact ⟨by simp,by simp⟩
  · obtain ⟨_,a,b,rfl⟩:=h;exact ⟨by simp,by simp⟩
  · obtain ⟨_,a,b,rfl⟩:=h;exact ⟨by simp,by simp⟩
  · obtain ⟨_,a,rfl⟩:=h;exact ⟨by simp,by simp⟩
  · obtain ⟨_,a,rfl⟩:=h;exact ⟨by simp,by simp⟩
theorem vA_nil (k:Int):vA k []=false:=by
  by_cases h:0 ≤ k ∧ k ≤ 7
  · have:=ndA_in h
    exact Ecz (by show ¬ ((0:Nat):Int)=_;omega)
  · exact vA_out h
theorem vA_zero {k:Int} {y:List Int} (h:vA k y=true):vA k (List.replicate y.length 0)=true:=by
  unfold vA at h ⊢
  simp only [Bool.and_eq_true,decide_eq_true_eq,List.length_replicate] at h ⊢
  exact ⟨h.1,B8z.2 fun x hx=>by rw [(List.mem_replicate.1 hx).2];omega⟩


set_option maxHeartbeats 16000000 in
theorem someActS_ok (bs:List Int) (p:Int) (cs:List Int) (es:List Ex) (m n:Nat) (hm:cs.length=m) (hn:es.length=n) (hbs:okB bs) (hp:0 ≤ p ∧ p ≤ 900000) (hq:cs.length ≤ 61 ∧ es.length ≤ 9 ∧ exB 4 es) :
    BCall Tryd.prog 30 [.ref 0 2 0,.agg [.own 1 m 1,.own 2 n 5]] [RD bs p,IL cs,EL false es] (fun r H'=>∃ k nums p',actK k nums ∧ (p ≤ p' ∧ p' ≤ p + 10) ∧ r=.agg [.int .i64 k,.own 3 nums.length 1] ∧ H'=[RD bs p',IL cs,EL false es,IL nums]):=by
  subst hm hn
  have hel:=A0z false es
  have hq8:cs.length ≤ 1099511627776 ∧ es.length ≤ 1099511627776 ∧ exB 1099511627776 es:=⟨by omega,by omega,fun e he=>by have:=hq.2.2 e he;omega⟩
  obtain ⟨hp1,hp2⟩:=hp
  obtain ⟨v1,v2,v3⟩:=hq
  have hol:=Hoz cs es
  generalize hO:opensA cs es=O at *
  refine Axz (pins:=[0,1,2]) (pin:=3) l30_eq rfl rfl rfl ?_
  (repeat' (first
 | (first|refine Ahz ?_|refine Abz ?_)
 | ((first|refine Aiz ?_|refine Afz ?_|refine Aoz ?_);simp (disch:=omega) only [push_cast,seval,l30r0,l30r1,l30r2,l30r3,l30r4,l30r5,l30r6,l30r7,l30r8,l30r9,l30r10,l30r11,l30r12,l30r13,l30r14,l30r15,l30r16,l30r17,hO,hel,Aaz])
 | ((first|refine Amz (fun h=>?_) (fun h=>?_)|refine Bpz (fun h=>?_) (fun h=>?_))<;>(try simp only [h])<;>(try simp only [bitvec_to_nat] at h)<;>(try simp only [h])<;>(first|(exfalso;omega)|(exfalso;simp_all;done)|(simp (disch:=omega) only [push_cast,seval,hO,hel,Aaz])|skip))
 | ((first|((with_reducible refine Ayz (f:=31) [0] true ?_);simp (disch:=omega) only [push_cast,seval,hO,hel,Aaz];(refine H0z (id:=0) (Gfz _ _ _ ?_ ?_) (by (simp (disch:=omega) only [push_cast,seval,hO,hel,Aaz])<;>rfl) ?_;(iterate 2 (exact sd));rintro _ _ ⟨x,hx0,hx1,rfl,rfl⟩))|((with_reducible refine Ayz (f:=32) (args:=[Operand.tmp 31,Operand.tmp 32]) [0,512] true ?_);simp (disch:=omega) only [push_cast,seval,hO,hel,Aaz];(refine B6z (id:=0) (id':=512) (by decide) (Cpz _ _ _ _ ?_ ?_ ?_ ?_ ?_) (by (simp (disch:=omega) only [push_cast,seval,hO,hel,Aaz])<;>rfl) (by (simp (disch:=omega) only [push_cast,seval,hO,hel,Aaz])<;>rfl) ?_;(iterate 5 (exact sd));rintro _ _ ⟨x,hx,hx0,rfl,rfl⟩))|((with_reducible refine Ayz (f:=32) (args:=[Operand.tmp 42,Operand.tmp 43]) [0,688] true ?_);simp (disch:=omega) only [push_cast,seval,hO,hel,Aaz];(refine B6z (id:=0) (id':=688) (by decide) (Cpz _ _ _ _ ?_ ?_ ?_ ?_ ?_) (by (simp (disch:=omega) only [push_cast,seval,hO,hel,Aaz])<;>rfl) (by (simp (disch:=omega) only [push_cast,seval,hO,hel,Aaz])<;>rfl) ?_;(iterate 5 (exact sd));rintro _ _ ⟨x,hx,hx0,rfl,rfl⟩))|((with_reducible refine Ayz (f:=32) (args:=[Operand.tmp 52,Operand.tmp 53]) [0,848] true ?_);simp (disch:=omega) only [push_cast,seval,hO,hel,Aaz];(refine B6z (id:=0) (id':=848) (by decide) (Cpz _ _ _ _ ?_ ?_ ?_ ?_ ?_) (by (simp (disch:=omega) only [push_cast,seval,hO,hel,Aaz])<;>rfl) (by (simp (disch:=omega) only [push_cast,seval,hO,hel,Aaz])<;>rfl) ?_;(iterate 5 (exact sd));rintro _ _ ⟨x,hx,hx0,rfl,rfl⟩))|((with_reducible refine Ayz (f:=32) (args:=[Operand.tmp 55,Operand.tmp 56]) [0,896] true ?_);simp (disch:=omega) only [push_cast,seval,hO,hel,Aaz];(refine B6z (id:=0) (id':=896) (by decide) (Cpz _ _ _ _ ?_ ?_ ?_ ?_ ?_) (by (simp (disch:=omega) only [push_cast,seval,hO,hel,Aaz])<;>rfl) (by (simp (disch:=omega) only [push_cast,seval,hO,hel,Aaz])<;>rfl) ?_;(iterate 5 (exact sd));rintro _ _ ⟨x,hx,hx0,rfl,rfl⟩))|((with_reducible refine Ayz (f:=32) (args:=[Operand.tmp 66,Operand.tmp 67]) [0,1072] true ?_);simp (disch:=omega) only [push_cast,seval,hO,hel,Aaz];(refine B6z (id:=0) (id':=1072) (by decide) (Cpz _ _ _ _ ?_ ?_ ?_ ?_ ?_) (by (simp (disch:=omega) only [push_cast,seval,hO,hel,Aaz])<;>rfl) (by (simp (disch:=omega) only [push_cast,seval,hO,hel,Aaz])<;>rfl) ?_;(iterate 5 (exact sd));rintro _ _ ⟨x,hx,hx0,rfl,rfl⟩))|((with_reducible refine Ayz (f:=32) (args:=[Operand.tmp 69,Operand.tmp 70]) [0,1120] true ?_);simp (disch:=omega) only [push_cast,seval,hO,hel,Aaz];(refine B6z (id:=0) (id':=1120) (by decide) (Cpz _ _ _ _ ?_ ?_ ?_ ?_ ?_) (by (simp (disch:=omega) only [push_cast,seval,hO,hel,Aaz])<;>rfl) (by (simp (disch:=omega) only [push_cast,seval,hO,hel,Aaz])<;>rfl) ?_;(iterate 5 (exact sd));rintro _ _ ⟨x,hx,hx0,rfl,rfl⟩)))<;>(try simp (disch:=omega) only [push_cast,seval,hO,hel,Aaz]))
 | ((first|refine Alz false ?_);simp (disch:=omega) only [push_cast,seval,hO,hel,Aaz])
 | ((first|((first|refine Akz (Ctz _ _ _ _ ?_ ?_ ?_) ?_|refine Agz (Ctz _ _ _ _ ?_ ?_ ?_) ⟨_,_,rfl,rfl⟩ ?_);(iterate 3 (exact sd));rintro _ _ ⟨rfl,rfl⟩))<;>(try simp (disch:=omega) only [push_cast,seval,hO,hel,Aaz]))))
  all_goals first
    | ((refine Adz ⟨.inr rfl,[720],[],_,by decide,rfl,?_⟩;(try simp (disch:=omega) only [push_cast,seval,↓Aez,↓Acz,↓List.map_cons,↓List.map_nil,hO,Aaz]));exact ⟨_,[_],_,.inl ⟨(by first|rfl|omega),_,rfl⟩,by omega,rfl,rfl⟩)
    | ((refine Adz ⟨.inr rfl,[928],[],_,by decide,rfl,?_⟩;(try simp (disch:=omega) only [push_cast,seval,↓Aez,↓Acz,↓List.map_cons,↓List.map_nil,hO,Aaz]));exact ⟨_,[_,_,_],_,.inr (.inl ⟨(by first|rfl|omega),_,_,_,rfl⟩),by omega,rfl,rfl⟩)
    | ((refine Adz ⟨.inr rfl,[1152],[],_,by decide,rfl,?_⟩;(try simp (disch:=omega) only [push_cast,seval,↓Aez,↓Acz,↓List.map_cons,↓List.map_nil,hO,Aaz]));exact ⟨_,[_,_,_,_],_,.inr (.inr (.inl ⟨(by first|rfl|omega),_,_,_,_,rfl⟩)),by omega,rfl,rfl⟩)
    | ((refine Adz ⟨.inr rfl,[1280],[],_,by decide,rfl,?_⟩;(try simp (disch:=omega) only [push_cast,seval,↓Aez,↓Acz,↓List.map_cons,↓List.map_nil,hO,Aaz]));exact ⟨_,[_,_],_,.inr (.inr (.inr (.inr (.inl ⟨(by first|rfl|omega),_,_,rfl⟩)))),by omega,rfl,rfl⟩)
    | ((refine Adz ⟨.inr rfl,[1472],[],_,by decide,rfl,?_⟩;(try simp (disch:=omega) only [push_cast,seval,↓Aez,↓Acz,↓List.map_cons,↓List.map_nil,hO,Aaz]));exact ⟨_,[_,_],_,.inr (.inr (.inr (.inr (.inr (.inl ⟨(by first|rfl|omega),_,_,rfl⟩))))),by omega,rfl,rfl⟩)
    | ((refine Adz ⟨.inr rfl,[592],[],_,by decide,rfl,?_⟩;(try simp (disch:=omega) only [push_cast,seval,↓Aez,↓Acz,↓List.map_cons,↓List.map_nil,hO,Aaz]));exact ⟨_,[_],_,actK_rest hx (by omega),by omega,rfl,rfl⟩)
    | skip


theorem someActL_ok (bs:List Int) (p:Int) (cs:List Int) (es:List Ex) (m n:Nat) (hm:cs.length=m) (hn:es.length=n) (hbs:okB bs) (hp:0 ≤ p ∧ p ≤ 900000) (hq:cs.length ≤ 61 ∧ es.length ≤ 9 ∧ exB 4 es) :
    BCall Tryd.prog 30 [.ref 0 2 0,.agg [.own 1 m 1,.own 2 n 5]] [RD bs p,IL cs,EL false es] (fun r H'=>∃ k nums p',(1 ≤ nums.length ∧ nums.length ≤ 4) ∧ (p ≤ p' ∧ p' ≤ p + 10) ∧ r=.agg [.int .i64 k,.own 3 nums.length 1] ∧ H'=[RD bs p',IL cs,EL false es,IL nums]):=by
  refine (someActS_ok bs p cs es m n hm hn hbs hp hq).mono ?_
  rintro r H' ⟨k,nums,p',h1,h2,h3,h4⟩
  exact ⟨k,nums,p',actK_len h1,h2,h3,h4⟩


set_option maxHeartbeats 16000000 in
theorem anyAct_ok (bs:List Int) (p:Int) (cs:List Int) (es:List Ex) (m n:Nat) (hm:cs.length=m) (hn:es.length=n) (hbs:okB bs) (hp:0 ≤ p ∧ p ≤ 800000) (hq:cs.length ≤ 61 ∧ es.length ≤ 9 ∧ exB 4 es) :
    BCall Tryd.prog 21 [.ref 0 2 0,.agg [.own 1 m 1,.own 2 n 5]] [RD bs p,IL cs,EL false es] (fun r H'=>∃ k nums p',nums.length ≤ 5 ∧ (p ≤ p' ∧ p' ≤ p + 20) ∧ r=.agg [.int .i64 k,.own 3 nums.length 1] ∧ H'=[RD bs p',IL cs,EL false es,IL nums]):=by
  subst hm hn
  have hel:=A0z false es
  obtain ⟨hp1,hp2⟩:=hp
  refine Axz (pins:=[0,1,2]) (pin:=3) l21_eq rfl rfl rfl ?_
  (repeat' (first
 | (first|refine Ahz ?_|refine Abz ?_)
 | ((first|refine Aiz ?_|refine B7z (mid:=l21r8a) (post:=l21r8b) [0] Baz (by decide) ?_|refine Afz ?_|refine Aoz ?_);simp (disch:=omega) only [push_cast,seval,l21r0,l21r1,l21r2,l21r3,l21r4,l21r5,l21r6,l21r7,l21r8a,l21r8b,l21r8,l21r9,hel,Aaz])
 | ((first|refine Amz (fun h=>?_) (fun h=>?_))<;>(try simp only [h])<;>(try simp only [bitvec_to_nat] at h)<;>(try simp only [h])<;>(first|(exfalso;omega)|(exfalso;simp_all;done)|(simp (disch:=omega) only [push_cast,seval,hel,Aaz])|skip))
 | ((first|((with_reducible refine Ayz (f:=30) [0,1,2] true ?_);simp (disch:=omega) only [push_cast,seval,hel,Aaz];(refine callND (by decide) (someActL_ok _ _ _ _ _ _ ?_ ?_ ?_ ?_ ?_) (by (simp (disch:=omega) only [push_cast,seval,hel,Aaz])<;>rfl) ?_;(iterate 5 (exact sd));rintro _ _ ⟨kA,nums,pA,⟨hl1,hl4⟩,hpA,rfl,rfl⟩))|((with_reducible refine Ayz (f:=31) [0] true ?_);simp (disch:=omega) only [push_cast,seval,hel,Aaz];(refine H0z (id:=0) (Gfz _ _ _ ?_ ?_) (by (simp (disch:=omega) only [push_cast,seval,hel,Aaz])<;>rfl) ?_;(iterate 2 (exact sd));rintro _ _ ⟨x,hx0,hx1,rfl,rfl⟩))|((with_reducible refine Ayz (f:=32) (args:=[Operand.tmp 13,Operand.tmp 14]) [0,224] true ?_);simp (disch:=omega) only [push_cast,seval,hel,Aaz];(refine B6z (id:=0) (id':=224) (by decide) (Cpz _ _ _ _ ?_ ?_ ?_ ?_ ?_) (by (simp (disch:=omega) only [push_cast,seval,hel,Aaz])<;>rfl) (by (simp (disch:=omega) only [push_cast,seval,hel,Aaz])<;>rfl) ?_;(iterate 5 (exact sd));rintro _ _ ⟨x,hx,hx0,rfl,rfl⟩))|((with_reducible refine qcallI_of (f:=32) [0] true ?_);simp (disch:=omega) only [push_cast,seval,hel,Aaz];(refine qcall1D (id:=0) (oneR_ok _ _ _ _ ?_ ?_ ?_ ?_ ?_) (by (simp (disch:=omega) only [push_cast,seval,hel,Aaz])<;>rfl) (by decide) (by simp only [Fuz,H7z];exact ⟨_,_,_,List.mem_cons_self,by omega,rfl,rfl⟩) ?_;(iterate 5 (exact sd));rintro _ _ ⟨x,hx,hx0,rfl,rfl⟩)))<;>(try simp (disch:=omega) only [push_cast,seval,hel,Aaz]))))
  all_goals ((refine Adz ⟨.inr rfl,[128],[],_,by decide,rfl,?_⟩;(try simp (disch:=omega) only [push_cast,seval,↓Aez,↓Acz,↓List.map_cons,↓List.map_nil,hel,Aaz,Bgz,IL_snoc,List.length_append,List.length_set])))
  all_goals first
    | exact ⟨_,nums,_,by omega,by omega,rfl,rfl⟩
    | exact ⟨_,nums ++ [1],_,by rw [List.length_append,List.length_singleton];omega,by omega,by rw [List.length_append];rfl,rfl⟩
    | exact ⟨_,nums.set 0 x,_,by rw [List.length_set];omega,by omega,by rw [List.length_set],rfl⟩
    | skip


theorem goodL_ok (bs:List Int) (p:Int) (hbs:okB bs) (hp:0 ≤ p ∧ p ≤ 800000) :
    BCall Tryd.prog 22 [.ref 0 2 0] [RD bs p] (fun r H'=>∃ cs es c p',(cs.length ≤ 61 ∧ es.length ≤ 9 ∧ exB 4 es) ∧ (p ≤ p' ∧ p' ≤ p + 110) ∧ r=.agg [.own 1 cs.length 1,.own 2 es.length 5] ∧ H'=[RD bs p',IL cs,EL c es]):=by
  refine (goodB_ok bs p hbs hp).mono ?_
  rintro r H' ⟨cs,es,c,p',h1,h2,h3,h4⟩
  exact ⟨cs,es,c,p',⟨by omega,by omega,h2.2.2⟩,h3,h4⟩


theorem drawVAB_ok (bs:List Int) (n:Nat) (hn:bs.length=n) (hb:n ≤ 1099511627776 ∧ ∀ x ∈ bs,0 ≤ x ∧ x ≤ 255):BCall Tryd.prog 10 [.rows false (UL bs) n] [] (fun r H'=>∃ k y,y.length ≤ 5 ∧ r=.agg [.int .i64 k,.own 0 y.length 1] ∧ H'=[IL y]):=by
  subst hn
  refine Axz (pins:=[]) (pin:=0) l10_eq rfl rfl rfl ?_
  (repeat' (first
 | (first|refine Ahz ?_|refine Abz ?_)
 | ((first|refine Aiz ?_);simp (disch:=omega) only [push_cast,seval,l10r0,l10r1,l10r2,Aaz])
 | ((first|((with_reducible refine Alz (f:=20) true ?_);simp (disch:=omega) only [push_cast,seval,Aaz];(refine Akz (newReader_ok _ _ ?_ ?_) ?_;(iterate 2 (exact sd));rintro _ _ ⟨bs0,hbs0,rfl,rfl⟩))|((with_reducible refine Ayz (f:=22) [80] true ?_);simp (disch:=omega) only [push_cast,seval,Aaz];(refine H0z (id:=80) (goodL_ok _ _ ?_ ?_) (by (simp (disch:=omega) only [push_cast,seval,Aaz])<;>rfl) ?_;(iterate 2 (exact sd));rintro _ _ ⟨csG,esG,cG,pG,hbG,hpG,rfl,rfl⟩))|((with_reducible refine Ayz (f:=21) [80,128,129] true ?_);simp (disch:=omega) only [push_cast,seval,Aaz];(refine callND (by decide) (anyAct_ok _ _ _ _ _ _ ?_ ?_ ?_ ?_ ?_) (by (simp (disch:=omega) only [push_cast,seval,Aaz])<;>rfl) ?_;(iterate 5 (exact sd));rintro _ _ ⟨kA,nums,pA,hkA,hpA,rfl,rfl⟩)))<;>(try simp (disch:=omega) only [push_cast,seval,Aaz]))))
  all_goals ((refine Adz ⟨.inr rfl,[144],[],_,by decide,rfl,?_⟩;(try simp (disch:=omega) only [push_cast,seval,↓Aez,↓Acz,↓List.map_cons,↓List.map_nil,Aaz])))
  all_goals exact ⟨_,nums,hkA,rfl,rfl⟩
theorem drawVA_ok (bs:List Int) (n:Nat) (hn:bs.length=n) (hb:n ≤ 1099511627776 ∧ ∀ x ∈ bs,0 ≤ x ∧ x ≤ 255):PCall Tryd.prog 10 [.rows false (UL bs) n] (fun r=>∃ k y,y.length ≤ 5 ∧ r=.agg [.int .i64 k,.rows true (IL y) y.length]):=by
  refine (BCall.plain (drawVAB_ok bs n hn hb)).mono ?_
  rintro r ⟨r0,H',⟨k,y,h,rfl,rfl⟩,rfl⟩
  refine ⟨k,y,h,?_⟩
  simp [AV.ren,nthH,ren_IL]


theorem ivAn_ok (k:Int):PCall Tryd.prog 11 [.agg [.int .i64 k,.rows false [] 0]] (fun r=>r=.bool false):=by
  refine (ivA_ok k [] 0 rfl (by decide)).mono ?_
  rintro r rfl
  rw [vA_nil]
theorem ivAz_ok (k:Int) (n:Nat) (hb:n ≤ 1099511627776):PCall Tryd.prog 11 [.agg [.int .i64 k,.rows false (List.replicate n (.int .i64 0)) n]] (fun r=>r=.bool (vA k (List.replicate n 0))):=by
  have:=ivA_ok k (List.replicate n 0) n (by simp) hb
  simpa [IL,List.map_replicate] using this


set_option maxHeartbeats 16000000 in
theorem lVAf_ok (bs:List Int) (hn:bs.length ≤ 9223372036854775807) (hb:∀ x ∈ bs,0 ≤ x ∧ x ≤ 255):PCall Tryd.prog 4 [.rows false (UL bs) bs.length] (fun r=>r=.bool true):=by
  refine A1z l4_eq rfl ?_
  by_cases h:bs.length ≤ 1048576
  · have q:bs.length ≤ 1099511627776 ∧ ∀ x ∈ bs,0 ≤ x ∧ x ≤ 255:=⟨by omega,hb⟩
    (repeat' (first
 | (first|refine Ahz ?_|refine Abz ?_)
 | ((first|refine Aiz ?_|refine Avz (mid:=l4r7a) (post:=l4r7b) Baz (by decide) ?_|refine Afz ?_|refine Aoz ?_);simp (disch:=omega) only [push_cast,seval,l4r0,l4r1,l4r2,l4r3,l4r4,l4r5,l4r6,l4r7a,l4r7b,l4r7,Aaz,bne_self_eq_false,decide_true])
 | ((first|refine Amz (fun h=>?_) (fun h=>?_))<;>(try simp only [h])<;>(try simp only [bitvec_to_nat] at h)<;>(try simp only [h])<;>(first|(exfalso;omega)|(exfalso;simp_all;done)|(simp (disch:=omega) only [push_cast,seval,Aaz,bne_self_eq_false,decide_true])|skip))
 | ((first|((with_reducible refine Alz (f:=10) true ?_);simp (disch:=omega) only [push_cast,seval,Aaz,bne_self_eq_false,decide_true];(refine Akz (Ajz (drawVA_ok _ _ ?_ ?_)) ?_;(iterate 2 (exact sd));rintro _ _ ⟨⟨k,y,hy5,rfl⟩,rfl⟩)))<;>(try simp (disch:=omega) only [push_cast,seval,Aaz,bne_self_eq_false,decide_true]))
 | ((first|refine Alz false ?_|refine Atz false ?_);simp (disch:=omega) only [push_cast,seval,Aaz,bne_self_eq_false,decide_true])
 | ((first|((first|refine Akz (Ajz (ivA_ok _ _ _ ?_ ?_)) ?_|refine Agz (Ajz (ivA_ok _ _ _ ?_ ?_)) ⟨_,_,rfl,rfl⟩ ?_);(iterate 2 (exact sd));rintro _ _ ⟨rfl,rfl⟩)|((first|refine Akz (Ajz (ivAn_ok _)) ?_|refine Agz (Ajz (ivAn_ok _)) ⟨_,_,rfl,rfl⟩ ?_);rintro _ _ ⟨rfl,rfl⟩)|((first|refine Akz (Ajz (ivAz_ok _ _ ?_)) ?_|refine Agz (Ajz (ivAz_ok _ _ ?_)) ⟨_,_,rfl,rfl⟩ ?_);(exact sd);rintro _ _ ⟨rfl,rfl⟩)|((first|refine Akz (Ajz (sVA_ok _ _ _ ?_ ?_)) ?_|refine Agz (Ajz (sVA_ok _ _ _ ?_ ?_)) ⟨_,_,rfl,rfl⟩ ?_);(iterate 2 (exact sd));rintro _ _ ⟨rfl,rfl⟩))<;>(try simp (disch:=omega) only [push_cast,seval,Aaz,bne_self_eq_false,decide_true]))))
    all_goals ((refine Adz ⟨.inr rfl,_,rfl,?_⟩;try simp (disch:=omega) only [push_cast,seval,decide_true,beq_self_eq_true]))
    all_goals first|rfl|exact congrArg AV.bool (vA_zero (by assumption))|(simp;done)|(simp_all;done)
  · (repeat' (first
 | (first|refine Ahz ?_|refine Abz ?_)
 | ((first|refine Aiz ?_|refine Afz ?_);simp (disch:=omega) only [push_cast,seval,l4r0,l4r1,l4r2,l4r3,l4r4,l4r5,l4r6,l4r7a,l4r7b,l4r7,Aaz])
 | ((first|refine Amz (fun h=>?_) (fun h=>?_))<;>(try simp only [h])<;>(try simp only [bitvec_to_nat] at h)<;>(try simp only [h])<;>(first|(exfalso;omega)|(exfalso;simp_all;done)|(simp (disch:=omega) only [push_cast,seval,Aaz])|skip))
 | (refine Adz ⟨.inr rfl,_,rfl,?_⟩;(try simp (disch:=omega) only [push_cast,seval,Aaz]))))

end Go.Proofs.YtfccepgibbdfaaaDoor
