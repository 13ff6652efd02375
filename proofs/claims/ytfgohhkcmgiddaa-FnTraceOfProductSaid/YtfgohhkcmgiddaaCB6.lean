/- Texts of this verifier. -/
import Derived.Test.YtfgohhkcmgiddaaCB5
import Derived.Test.YtfgohhkcmgiddaaCM1
import Derived.Test.YtfgohhkcmgiddaaCW3
import Derived.Test.YtfgohhkcmgiddaaChecked
import Derived.RangeFuncBox
import Derived.RangeFuncLeaves
import Derived.Shelf.Abstract
import Derived.WalkKit
import Derived.OwnWalkIn
import Derived.TacticsInMore
import Derived.LoopNIn
import Derived.LoopIn
set_option linter.unusedSimpArgs false
set_option linter.unusedVariables false
set_option maxRecDepth 4000
set_option maxHeartbeats 4000000
namespace Go.Proofs.Ytfgohhkcmgiddaa
open VwM Vw Go

theorem Jdz (bs:List Int) (p:Int) (hb:okB bs) (hp:0 ≤ p ∧ p ≤ 900000):BCall Try.prog 48 [.ref 0 2 0] [RD bs p] (fun r H'=>∃ xs q,(good4 xs ∧ xs.length ≤ 4 ∧ pr xs ≤ 60) ∧ (p ≤ q ∧ q ≤ p + 10) ∧ r=.own 1 xs.length 1 ∧ H'=[RD bs q,IL xs]):=by
  refine A7z (pins:=[0]) (pin:=1) l48_eq rfl rfl rfl ?_
  (repeat' (first
 | (first|refine Akz ?_|refine Aez ?_)
 | ((first|refine Alz ?_|refine Adz ?_|refine Agz ?_|refine Ahz ?_);simp (disch:=omega) only [push_cast,seval,l48r0,l48r1,l48r2,l48r3,l48r4,l48r5,l48r6,l48r7,l48r8])
 | ((first|refine Aaz ?_ ?_|refine Acz ?_ ?_|refine Abz ?_ ?_)<;>intro h<;>(try simp only [h])<;>(try simp only [bitvec_to_nat] at h)<;>(try simp only [h])<;>(first|(exfalso;omega)|(exfalso;simp_all;done)|(simp (disch:=omega) only [push_cast,seval])|skip))
 | ((first|((with_reducible refine callD_ids (f:=26) (args:=[Operand.tmp 7,Operand.tmp 8]) [0,128] true ?_);simp (disch:=omega) only [push_cast,seval];(refine Dpz (id:=0) (id':=128) (by decide) (Fhz _ _ _ _ ?_ ?_ ?_ ?_ ?_) (by (simp (disch:=omega) only [push_cast,seval])<;>rfl) (by (simp (disch:=omega) only [push_cast,seval])<;>rfl) ?_;(iterate 5 (exact sd));rintro _ _ ⟨x,hx,hx0,rfl,rfl⟩))|((with_reducible refine callD_ids (f:=26) (args:=[Operand.tmp 14,Operand.tmp 15]) [0,240] true ?_);simp (disch:=omega) only [push_cast,seval];(refine Dpz (id:=0) (id':=240) (by decide) (Fhz _ _ _ _ ?_ ?_ ?_ ?_ ?_) (by (simp (disch:=omega) only [push_cast,seval])<;>rfl) (by (simp (disch:=omega) only [push_cast,seval])<;>rfl) ?_;(iterate 5 (exact sd));rintro _ _ ⟨x,hx,hx0,rfl,rfl⟩))|((with_reducible refine callD_ids (f:=26) [0] true ?_);simp (disch:=omega) only [push_cast,seval];(refine Cyz (id:=0) (Dwz _ _ _ _ ?_ ?_ ?_ ?_ ?_) (by (simp (disch:=omega) only [push_cast,seval])<;>rfl) ?_;(iterate 5 (exact sd));rintro _ _ ⟨x,hx,hx0,rfl,rfl⟩))|((with_reducible refine qcallI_of (f:=26) [0] true ?_);simp (disch:=omega) only [push_cast,seval];(refine Ctz (id:=0) (Dwz _ _ _ _ ?_ ?_ ?_ ?_ ?_) (by (simp (disch:=omega) only [push_cast,seval])<;>rfl) (by decide) (by simp only [Ddz,Eqz];exact ⟨_,_,_,List.mem_cons_self,by omega,rfl,rfl⟩) ?_;(iterate 5 (exact sd));rintro _ _ ⟨x,hx,hx0,rfl,rfl⟩)))<;>(try simp (disch:=omega) only [push_cast,seval]))
 | ((first|refine Apz false ?_|refine qcallD_of false ?_);simp (disch:=omega) only [push_cast,seval])
 | ((first|((first|refine call0D (BCall.ofP (scount_ok _ _ ?_ ?_)) ?_|refine qcall0D (BCall.ofP (scount_ok _ _ ?_ ?_)) ⟨_,_,rfl,rfl⟩ ?_);(iterate 2 (exact sd));rintro _ _ ⟨rfl,rfl⟩))<;>(try simp (disch:=omega) only [push_cast,seval]))
 | (refine Aiz ⟨.inr rfl,[96],[],_,by decide,rfl,?_⟩;(try simp (disch:=omega) only [push_cast,seval,↓Aqz,↓Amz,↓List.map_cons,↓List.map_nil]))))
  have hn:0 ≤ x ∧ x ≤ 4:=by
    simp only [Ddz,Eqz,List.mem_cons,List.not_mem_nil,or_false] at hx
    omega
  refine A2z (fun y:List Int × Int × Int=>mkS [(0,.ref 0 2 0),(3,.own 96 y.1.length 1),(4,.int .i64 y.2.1)] [(0,RD bs y.2.2),(96,IL y.1)])
    (fun y=>(((∀ x ∈ y.1,0 ≤ x ∧ x ≤ 60) ∧ pr y.1 ≤ 60) ∧ (y.1.length:Int) + y.2.1 ≤ 4) ∧ 0 ≤ y.2.1 ∧ p ≤ y.2.2 ∧ y.2.2 + y.2.1 ≤ p + 10) (fun y=>y.2.1.toNat) ([],x,p + 1) ⟨⟨⟨(fun x h=>by cases h),by simp [pr]⟩,by simp;omega⟩,by simp only;omega⟩ ?_ ?_
  · (refine Sub.of_lists ?_ ?_ ?_ ?_ ?_<;>simp [Vw.mkS,Vw.lk,Vw.hk,AV.inn,innL,Arz,Aoz,Atz,-List.map_set,-List.getD_eq_getElem?_getD])
  · rintro ⟨xs,n,q⟩ ⟨⟨⟨hxs,hpr⟩,hlen⟩,h0,hq1,hq2⟩
    clear hx hx0 hn
    simp only at hxs hpr hlen h0 hq1 hq2 ⊢
    by_cases hlt:n > 0
    · have hg:good4 xs:=⟨hxs,by omega⟩
      have hpb:=Cxz hg
      (repeat' (first
 | (first|refine Akz ?_|refine Aez ?_)
 | ((first|refine Alz ?_|refine Adz ?_|refine Agz ?_|refine Ahz ?_);simp (disch:=omega) only [push_cast,seval,l48r0,l48r1,l48r2,l48r3,l48r4,l48r5,l48r6,l48r7,l48r8,hlt])
 | ((first|refine Aaz ?_ ?_|refine Acz ?_ ?_|refine Abz ?_ ?_)<;>intro h<;>(try simp only [h])<;>(try simp only [bitvec_to_nat] at h)<;>(try simp only [h])<;>(first|(exfalso;omega)|(exfalso;simp_all;done)|(simp (disch:=omega) only [push_cast,seval,hlt])|skip))
 | ((first|((with_reducible refine callD_ids (f:=26) (args:=[Operand.tmp 7,Operand.tmp 8]) [0,128] true ?_);simp (disch:=omega) only [push_cast,seval,hlt];(refine Dpz (id:=0) (id':=128) (by decide) (Fhz _ _ _ _ ?_ ?_ ?_ ?_ ?_) (by (simp (disch:=omega) only [push_cast,seval,hlt])<;>rfl) (by (simp (disch:=omega) only [push_cast,seval,hlt])<;>rfl) ?_;(iterate 5 (exact sd));rintro _ _ ⟨x,hx,hx0,rfl,rfl⟩))|((with_reducible refine callD_ids (f:=26) (args:=[Operand.tmp 14,Operand.tmp 15]) [0,240] true ?_);simp (disch:=omega) only [push_cast,seval,hlt];(refine Dpz (id:=0) (id':=240) (by decide) (Fhz _ _ _ _ ?_ ?_ ?_ ?_ ?_) (by (simp (disch:=omega) only [push_cast,seval,hlt])<;>rfl) (by (simp (disch:=omega) only [push_cast,seval,hlt])<;>rfl) ?_;(iterate 5 (exact sd));rintro _ _ ⟨x,hx,hx0,rfl,rfl⟩))|((with_reducible refine callD_ids (f:=26) [0] true ?_);simp (disch:=omega) only [push_cast,seval,hlt];(refine Cyz (id:=0) (Dwz _ _ _ _ ?_ ?_ ?_ ?_ ?_) (by (simp (disch:=omega) only [push_cast,seval,hlt])<;>rfl) ?_;(iterate 5 (exact sd));rintro _ _ ⟨x,hx,hx0,rfl,rfl⟩))|((with_reducible refine qcallI_of (f:=26) [0] true ?_);simp (disch:=omega) only [push_cast,seval,hlt];(refine Ctz (id:=0) (Dwz _ _ _ _ ?_ ?_ ?_ ?_ ?_) (by (simp (disch:=omega) only [push_cast,seval,hlt])<;>rfl) (by decide) (by simp only [Ddz,Eqz];exact ⟨_,_,_,List.mem_cons_self,by omega,rfl,rfl⟩) ?_;(iterate 5 (exact sd));rintro _ _ ⟨x,hx,hx0,rfl,rfl⟩)))<;>(try simp (disch:=omega) only [push_cast,seval,hlt]))
 | ((first|refine Apz false ?_|refine qcallD_of false ?_);simp (disch:=omega) only [push_cast,seval,hlt])
 | ((first|((first|refine call0D (BCall.ofP (scount_ok _ _ ?_ ?_)) ?_|refine qcall0D (BCall.ofP (scount_ok _ _ ?_ ?_)) ⟨_,_,rfl,rfl⟩ ?_);(iterate 2 (exact sd));rintro _ _ ⟨rfl,rfl⟩))<;>(try simp (disch:=omega) only [push_cast,seval,hlt]))
 | (refine Aiz ⟨.inr rfl,[96],[],_,by decide,rfl,?_⟩;(try simp (disch:=omega) only [push_cast,seval,↓Aqz,↓Amz,↓List.map_cons,↓List.map_nil,hlt]))))
      · have hx2:0 ≤ x ∧ x ≤ 5:=by
          simp only [Ddz,Eqz,List.mem_cons,List.not_mem_nil,or_false] at hx
          omega
        have hmx:0 ≤ pr xs * x ∧ pr xs * x ≤ 60 * 5:=⟨Int.mul_nonneg hpb.1 hx2.1,Int.mul_le_mul hpr hx2.2 hx2.1 (by omega)⟩
        have hw:pr xs * x ≤ 60:=by
          have h':=h
          rwa [IntWalk.i64_in _ (by omega)] at h'
        refine ⟨(xs ++ [x],n - 1,q + 1),⟨⟨⟨fun y hy=>?_,by simp only [I3z];exact hw⟩,by simp;omega⟩,by simp only;omega⟩,by simp only;omega,?_⟩
        · simp only [List.mem_append,List.mem_singleton] at hy
          rcases hy with hy|hy
          · exact hxs y hy
          · omega
        · (refine Sub.of_lists ?_ ?_ ?_ ?_ ?_<;>simp [Vw.mkS,Vw.lk,Vw.hk,AV.inn,innL,Arz,Aoz,Atz,-List.map_set,-List.getD_eq_getElem?_getD])
      · refine ⟨(xs,n - 1,q + 1),⟨⟨⟨hxs,hpr⟩,by simp only;omega⟩,by simp only;omega⟩,by simp only;omega,?_⟩
        (refine Sub.of_lists ?_ ?_ ?_ ?_ ?_<;>simp [Vw.mkS,Vw.lk,Vw.hk,AV.inn,innL,Arz,Aoz,Atz,-List.map_set,-List.getD_eq_getElem?_getD])
    · (repeat' (first
 | (first|refine Akz ?_|refine Aez ?_)
 | ((first|refine Alz ?_|refine Adz ?_|refine Agz ?_|refine Ahz ?_);simp (disch:=omega) only [push_cast,seval,l48r0,l48r1,l48r2,l48r3,l48r4,l48r5,l48r6,l48r7,l48r8,hlt])
 | ((first|refine Aaz ?_ ?_|refine Acz ?_ ?_|refine Abz ?_ ?_)<;>intro h<;>(try simp only [h])<;>(try simp only [bitvec_to_nat] at h)<;>(try simp only [h])<;>(first|(exfalso;omega)|(exfalso;simp_all;done)|(simp (disch:=omega) only [push_cast,seval,hlt])|skip))
 | ((first|((with_reducible refine callD_ids (f:=26) (args:=[Operand.tmp 7,Operand.tmp 8]) [0,128] true ?_);simp (disch:=omega) only [push_cast,seval,hlt];(refine Dpz (id:=0) (id':=128) (by decide) (Fhz _ _ _ _ ?_ ?_ ?_ ?_ ?_) (by (simp (disch:=omega) only [push_cast,seval,hlt])<;>rfl) (by (simp (disch:=omega) only [push_cast,seval,hlt])<;>rfl) ?_;(iterate 5 (exact sd));rintro _ _ ⟨x,hx,hx0,rfl,rfl⟩))|((with_reducible refine callD_ids (f:=26) (args:=[Operand.tmp 14,Operand.tmp 15]) [0,240] true ?_);simp (disch:=omega) only [push_cast,seval,hlt];(refine Dpz (id:=0) (id':=240) (by decide) (Fhz _ _ _ _ ?_ ?_ ?_ ?_ ?_) (by (simp (disch:=omega) only [push_cast,seval,hlt])<;>rfl) (by (simp (disch:=omega) only [push_cast,seval,hlt])<;>rfl) ?_;(iterate 5 (exact sd));rintro _ _ ⟨x,hx,hx0,rfl,rfl⟩))|((with_reducible refine callD_ids (f:=26) [0] true ?_);simp (disch:=omega) only [push_cast,seval,hlt];(refine Cyz (id:=0) (Dwz _ _ _ _ ?_ ?_ ?_ ?_ ?_) (by (simp (disch:=omega) only [push_cast,seval,hlt])<;>rfl) ?_;(iterate 5 (exact sd));rintro _ _ ⟨x,hx,hx0,rfl,rfl⟩))|((with_reducible refine qcallI_of (f:=26) [0] true ?_);simp (disch:=omega) only [push_cast,seval,hlt];(refine Ctz (id:=0) (Dwz _ _ _ _ ?_ ?_ ?_ ?_ ?_) (by (simp (disch:=omega) only [push_cast,seval,hlt])<;>rfl) (by decide) (by simp only [Ddz,Eqz];exact ⟨_,_,_,List.mem_cons_self,by omega,rfl,rfl⟩) ?_;(iterate 5 (exact sd));rintro _ _ ⟨x,hx,hx0,rfl,rfl⟩)))<;>(try simp (disch:=omega) only [push_cast,seval,hlt]))
 | ((first|refine Apz false ?_|refine qcallD_of false ?_);simp (disch:=omega) only [push_cast,seval,hlt])
 | ((first|((first|refine call0D (BCall.ofP (scount_ok _ _ ?_ ?_)) ?_|refine qcall0D (BCall.ofP (scount_ok _ _ ?_ ?_)) ⟨_,_,rfl,rfl⟩ ?_);(iterate 2 (exact sd));rintro _ _ ⟨rfl,rfl⟩))<;>(try simp (disch:=omega) only [push_cast,seval,hlt]))
 | (refine Aiz ⟨.inr rfl,[96],[],_,by decide,rfl,?_⟩;(try simp (disch:=omega) only [push_cast,seval,↓Aqz,↓Amz,↓List.map_cons,↓List.map_nil,hlt]))))
      exact ⟨xs,q,⟨⟨hxs,by omega⟩,by omega,hpr⟩,by omega,rfl,rfl⟩


set_option maxHeartbeats 16000000 in
theorem F9z (bs:List Int) (p:Int) (sh:List Int) (m:Nat) (hm:sh.length=m) (hb:okB bs) (hp:(0 ≤ p ∧ p ≤ 900000) ∧ good4 sh ∧ pr sh ≤ 60):BCall Try.prog 27 [.ref 0 2 0,.own 1 m 1] [RD bs p,IL sh] (fun r H'=>∃ (y:List Int) (q:Int),(((y.length:Int)=pr sh) ∧ ∀ v ∈ y,-9 ≤ v ∧ v ≤ 9) ∧ (p ≤ q ∧ q ≤ p + 60) ∧ r=.agg [.own 2 sh.length 1,.own 3 y.length 1] ∧ H'=[RD bs q,IL sh,IL sh,IL y]):=by
  subst hm
  obtain ⟨⟨hp0,hp1⟩,hg,hpr⟩:=hp
  have hl:=hg.2
  have hpb:=Cxz hg
  refine A7z (pins:=[0,1]) (pin:=2) l27_eq rfl rfl rfl ?_
  (repeat' (first
 | (first|refine Akz ?_|refine Aez ?_)
 | ((first|refine Alz ?_|refine Cwz (mid:=l27r4a) (post:=l27r4b) [0] Axz (by decide) ?_|refine Adz ?_|refine Agz ?_|refine Ahz ?_);simp (disch:=omega) only [push_cast,seval,l27r0,l27r1,l27r2,l27r3,l27r4a,l27r4b,l27r4,l27r5,l27r6])
 | ((first|refine Aaz ?_ ?_|refine Acz ?_ ?_|refine Abz ?_ ?_)<;>intro h<;>(try simp only [h])<;>(try simp only [bitvec_to_nat] at h)<;>(try simp only [h])<;>(first|(exfalso;omega)|(exfalso;simp_all;done)|(simp (disch:=omega) only [push_cast,seval])|skip))
 | ((first|((with_reducible refine callD_ids (f:=28) [0] true ?_);simp (disch:=omega) only [push_cast,seval];(refine Cyz (id:=0) (B3z _ _ _ ?_ ?_) (by (simp (disch:=omega) only [push_cast,seval])<;>rfl) ?_;(iterate 2 (exact sd));rintro _ _ ⟨x,hx0,hx1,rfl,rfl⟩))|((with_reducible refine qcallI_of (f:=28) [0] true ?_);simp (disch:=omega) only [push_cast,seval];(refine Ctz (id:=0) (B3z _ _ _ ?_ ?_) (by (simp (disch:=omega) only [push_cast,seval])<;>rfl) (by decide) ⟨_,_,0,by omega,Or.inr (Or.inr rfl),rfl,rfl⟩ ?_;(iterate 2 (exact sd));rintro _ _ ⟨x,hx0,hx1,rfl,rfl⟩)))<;>(try simp (disch:=omega) only [push_cast,seval]))
 | ((first|refine Apz false ?_|refine qcallD_of false ?_);simp (disch:=omega) only [push_cast,seval])
 | ((first|((first|refine call0D (Caz _ _ ?_ ?_) ?_|refine qcall0D (Caz _ _ ?_ ?_) ⟨_,_,rfl,rfl⟩ ?_);(iterate 2 (exact sd));rintro _ _ ⟨rfl,rfl⟩)|((first|refine call0D (BCall.ofP (scount_ok _ _ ?_ ?_)) ?_|refine qcall0D (BCall.ofP (scount_ok _ _ ?_ ?_)) ⟨_,_,rfl,rfl⟩ ?_);(iterate 2 (exact sd));rintro _ _ ⟨rfl,rfl⟩))<;>(try simp (disch:=omega) only [push_cast,seval]))
 | (refine Aiz ⟨.inr rfl,[128,352],[],_,by decide,rfl,?_⟩;(try simp (disch:=omega) only [push_cast,seval,↓Aqz,↓Amz,↓List.map_cons,↓List.map_nil]))))
  refine D5z (fun y:List Int × Int × Int=>mkS [(0,.ref 0 2 0),(4,.ref 64 2 0),(5,.ref 80 2 0),(6,.int .i64 y.2.1)] [(0,RD bs y.2.2),(1,IL sh),(64,[.val (.slice none 0 0),.val (.slice none 0 0)]),(80,[.own 128 sh.length 1,.own 352 y.1.length 1]),(128,IL sh),(352,IL y.1)])
    (fun y=>(((y.1.length:Int) + y.2.1=pr sh ∧ 0 ≤ y.2.1) ∧ ∀ v ∈ y.1,-9 ≤ v ∧ v ≤ 9) ∧ p ≤ y.2.2 ∧ y.2.2 + y.2.1 ≤ p + pr sh) (fun y=>y.2.1.toNat) ([],pr sh,p) ⟨⟨⟨by simp,by simp only;omega⟩,fun v hv=>by cases hv⟩,by simp only;omega⟩ ?_ ?_
  · refine SubW.adoptH [80] 352 1 (by simp [Vw.hk]) (SubW.of ?_)
    simp only [adHL,List.map_cons,List.map_nil,adA,List.contains_cons,List.contains_nil]
    (refine Sub.of_lists ?_ ?_ ?_ ?_ ?_<;>simp [Vw.mkS,Vw.lk,Vw.hk,AV.inn,innL,Arz,Aoz,Atz,-List.map_set,-List.getD_eq_getElem?_getD])
    all_goals (intro id hid;rcases (by omega:id=0 ∨ id=1) with rfl|rfl<;>simp)
  · rintro ⟨y,n,q⟩ ⟨⟨⟨hlen,h0⟩,hy⟩,hq1,hq2⟩
    simp only at hlen h0 hy hq1 hq2 ⊢
    by_cases hlt:n > 0
    · (repeat' (first
 | (first|refine Akz ?_|refine Aez ?_)
 | ((first|refine Alz ?_|refine Cwz (mid:=l27r4a) (post:=l27r4b) [0] Axz (by decide) ?_|refine Adz ?_|refine Agz ?_|refine Ahz ?_);simp (disch:=omega) only [push_cast,seval,l27r0,l27r1,l27r2,l27r3,l27r4a,l27r4b,l27r4,l27r5,l27r6,hlt])
 | ((first|refine Aaz ?_ ?_|refine Acz ?_ ?_|refine Abz ?_ ?_)<;>intro h<;>(try simp only [h])<;>(try simp only [bitvec_to_nat] at h)<;>(try simp only [h])<;>(first|(exfalso;omega)|(exfalso;simp_all;done)|(simp (disch:=omega) only [push_cast,seval,hlt])|skip))
 | ((first|((with_reducible refine callD_ids (f:=28) [0] true ?_);simp (disch:=omega) only [push_cast,seval,hlt];(refine Cyz (id:=0) (B3z _ _ _ ?_ ?_) (by (simp (disch:=omega) only [push_cast,seval,hlt])<;>rfl) ?_;(iterate 2 (exact sd));rintro _ _ ⟨x,hx0,hx1,rfl,rfl⟩))|((with_reducible refine qcallI_of (f:=28) [0] true ?_);simp (disch:=omega) only [push_cast,seval,hlt];(refine Ctz (id:=0) (B3z _ _ _ ?_ ?_) (by (simp (disch:=omega) only [push_cast,seval,hlt])<;>rfl) (by decide) ⟨_,_,0,by omega,Or.inr (Or.inr rfl),rfl,rfl⟩ ?_;(iterate 2 (exact sd));rintro _ _ ⟨x,hx0,hx1,rfl,rfl⟩)))<;>(try simp (disch:=omega) only [push_cast,seval,hlt]))
 | ((first|refine Apz false ?_|refine qcallD_of false ?_);simp (disch:=omega) only [push_cast,seval,hlt])
 | ((first|((first|refine call0D (Caz _ _ ?_ ?_) ?_|refine qcall0D (Caz _ _ ?_ ?_) ⟨_,_,rfl,rfl⟩ ?_);(iterate 2 (exact sd));rintro _ _ ⟨rfl,rfl⟩)|((first|refine call0D (BCall.ofP (scount_ok _ _ ?_ ?_)) ?_|refine qcall0D (BCall.ofP (scount_ok _ _ ?_ ?_)) ⟨_,_,rfl,rfl⟩ ?_);(iterate 2 (exact sd));rintro _ _ ⟨rfl,rfl⟩))<;>(try simp (disch:=omega) only [push_cast,seval,hlt]))
 | (refine Aiz ⟨.inr rfl,[128,352],[],_,by decide,rfl,?_⟩;(try simp (disch:=omega) only [push_cast,seval,↓Aqz,↓Amz,↓List.map_cons,↓List.map_nil,hlt]))))
      have hx9:-9 ≤ x - 9 ∧ x - 9 ≤ 9:=by omega
      refine ⟨(y ++ [x - 9],n - 1,q + 1),⟨⟨⟨by simp;omega,by simp only;omega⟩,fun v hv=>?_⟩,by simp only;omega⟩,by simp only;omega,SubW.of ?_⟩
      · rcases List.mem_append.1 hv with h|h
        · exact hy v h
        · rw [List.mem_singleton] at h;omega
      · (refine Sub.of_lists ?_ ?_ ?_ ?_ ?_<;>simp [Vw.mkS,Vw.lk,Vw.hk,AV.inn,innL,Arz,Aoz,Atz,-List.map_set,-List.getD_eq_getElem?_getD])
        all_goals (intro id hid;rcases (by omega:id=0 ∨ id=1) with rfl|rfl<;>simp)
    · (repeat' (first
 | (first|refine Akz ?_|refine Aez ?_)
 | ((first|refine Alz ?_|refine Cwz (mid:=l27r4a) (post:=l27r4b) [0] Axz (by decide) ?_|refine Adz ?_|refine Agz ?_|refine Ahz ?_);simp (disch:=omega) only [push_cast,seval,l27r0,l27r1,l27r2,l27r3,l27r4a,l27r4b,l27r4,l27r5,l27r6,hlt])
 | ((first|refine Aaz ?_ ?_|refine Acz ?_ ?_|refine Abz ?_ ?_)<;>intro h<;>(try simp only [h])<;>(try simp only [bitvec_to_nat] at h)<;>(try simp only [h])<;>(first|(exfalso;omega)|(exfalso;simp_all;done)|(simp (disch:=omega) only [push_cast,seval,hlt])|skip))
 | ((first|((with_reducible refine callD_ids (f:=28) [0] true ?_);simp (disch:=omega) only [push_cast,seval,hlt];(refine Cyz (id:=0) (B3z _ _ _ ?_ ?_) (by (simp (disch:=omega) only [push_cast,seval,hlt])<;>rfl) ?_;(iterate 2 (exact sd));rintro _ _ ⟨x,hx0,hx1,rfl,rfl⟩))|((with_reducible refine qcallI_of (f:=28) [0] true ?_);simp (disch:=omega) only [push_cast,seval,hlt];(refine Ctz (id:=0) (B3z _ _ _ ?_ ?_) (by (simp (disch:=omega) only [push_cast,seval,hlt])<;>rfl) (by decide) ⟨_,_,0,by omega,Or.inr (Or.inr rfl),rfl,rfl⟩ ?_;(iterate 2 (exact sd));rintro _ _ ⟨x,hx0,hx1,rfl,rfl⟩)))<;>(try simp (disch:=omega) only [push_cast,seval,hlt]))
 | ((first|refine Apz false ?_|refine qcallD_of false ?_);simp (disch:=omega) only [push_cast,seval,hlt])
 | ((first|((first|refine call0D (Caz _ _ ?_ ?_) ?_|refine qcall0D (Caz _ _ ?_ ?_) ⟨_,_,rfl,rfl⟩ ?_);(iterate 2 (exact sd));rintro _ _ ⟨rfl,rfl⟩)|((first|refine call0D (BCall.ofP (scount_ok _ _ ?_ ?_)) ?_|refine qcall0D (BCall.ofP (scount_ok _ _ ?_ ?_)) ⟨_,_,rfl,rfl⟩ ?_);(iterate 2 (exact sd));rintro _ _ ⟨rfl,rfl⟩))<;>(try simp (disch:=omega) only [push_cast,seval,hlt]))
 | (refine Aiz ⟨.inr rfl,[128,352],[],_,by decide,rfl,?_⟩;(try simp (disch:=omega) only [push_cast,seval,↓Aqz,↓Amz,↓List.map_cons,↓List.map_nil,hlt]))))
      exact ⟨y,q,⟨by omega,hy⟩,by omega,rfl,rfl⟩


set_option maxHeartbeats 16000000 in
theorem Ixz (bs:List Int) (p:Int) (hb:okB bs) (hp:0 ≤ p ∧ p ≤ 800000):BCall Try.prog 29 [.ref 0 2 0] [RD bs p] (fun r H'=>∃ (x y:List Int) (q:Int),((x.length ≤ 5 ∧ ∀ v ∈ x,-1 ≤ v ∧ v ≤ 60) ∧ y.length ≤ 61 ∧ ∀ v ∈ y,-9 ≤ v ∧ v ≤ 9) ∧ (p ≤ q ∧ q ≤ p + 100) ∧ r=.agg [.own 1 x.length 1,.own 2 y.length 1] ∧ H'=[RD bs q,IL x,IL y]):=by
  refine A7z (pins:=[0]) (pin:=1) l29_eq rfl rfl rfl ?_
  (repeat' (first
 | (first|refine Akz ?_|refine Aez ?_)
 | ((first|refine Alz ?_|refine Adz ?_|refine Agz ?_|refine Ahz ?_);simp (disch:=omega) only [push_cast,seval,l29r0,l29r1,l29r2,l29r3,l29r4,l29r5,l29r6,l29r7])
 | ((first|refine Aaz ?_ ?_|refine Acz ?_ ?_|refine Abz ?_ ?_)<;>intro h<;>(try simp only [h])<;>(try simp only [bitvec_to_nat] at h)<;>(try simp only [h])<;>(first|(exfalso;omega)|(exfalso;simp_all;done)|(simp (disch:=omega) only [push_cast,seval])|skip))
 | ((first|((with_reducible refine callD_ids (f:=48) [0] true ?_);simp (disch:=omega) only [push_cast,seval];(refine Cyz (id:=0) (Jdz _ _ ?_ ?_) (by (simp (disch:=omega) only [push_cast,seval])<;>rfl) ?_;(iterate 2 (exact sd));rintro _ _ ⟨xs,q,⟨hxs,hx4,hxl⟩,hq,rfl,rfl⟩))|((with_reducible refine callD_ids (f:=27) (args:=[Operand.tmp 4,Operand.tmp 6]) [0,96] true ?_);simp (disch:=omega) only [push_cast,seval];(refine Dpz (id:=0) (id':=96) (by decide) (F9z _ _ _ _ ?_ ?_ ?_) (by (simp (disch:=omega) only [push_cast,seval])<;>rfl) (by (simp (disch:=omega) only [push_cast,seval])<;>rfl) ?_;(iterate 3 (exact sd));rintro _ _ ⟨y,q,⟨hy1,hy2⟩,hq,rfl,rfl⟩))|((with_reducible refine callD_ids (f:=28) [0] true ?_);simp (disch:=omega) only [push_cast,seval];(refine Cyz (id:=0) (B3z _ _ _ ?_ ?_) (by (simp (disch:=omega) only [push_cast,seval])<;>rfl) ?_;(iterate 2 (exact sd));rintro _ _ ⟨x,hx0,hx1,rfl,rfl⟩))|((with_reducible refine qcallI_of (f:=28) [0] true ?_);simp (disch:=omega) only [push_cast,seval];(refine Ctz (id:=0) (B3z _ _ _ ?_ ?_) (by (simp (disch:=omega) only [push_cast,seval])<;>rfl) (by decide) ⟨_,_,0,by omega,Or.inr (Or.inr rfl),rfl,rfl⟩ ?_;(iterate 2 (exact sd));rintro _ _ ⟨x,hx0,hx1,rfl,rfl⟩)))<;>(try simp (disch:=omega) only [push_cast,seval]))))
  · (refine Aiz ⟨.inr rfl,[112,113],[],_,by decide,rfl,?_⟩;(try simp (disch:=omega) only [push_cast,seval,↓Aqz,↓Amz,↓List.map_cons,↓List.map_nil]))
    refine ⟨xs,y ++ [1],q + 1,⟨⟨by have:=hxs.2;omega,fun v hv=>by have:=hxs.1 v hv;omega⟩,by simp;omega,fun v hv=>?_⟩,?_,?_⟩
    · rcases List.mem_append.1 hv with h|h
      · exact hy2 v h
      · rw [List.mem_singleton] at h;omega
    · exact ⟨by omega,by omega⟩
    · first|exact ⟨rfl,rfl⟩|(simp;done)|(simp;exact ⟨fun _ _=>rfl,rfl⟩)
  · (refine Aiz ⟨.inr rfl,[112,113],[],_,by decide,rfl,?_⟩;(try simp (disch:=omega) only [push_cast,seval,↓Aqz,↓Amz,↓List.map_cons,↓List.map_nil]))
    refine ⟨xs ++ [-1],y,q + 1,⟨⟨by have:=hxs.2;simp;omega,fun v hv=>?_⟩,by omega,hy2⟩,?_,?_⟩
    · rcases List.mem_append.1 hv with h|h
      · have:=hxs.1 v h;omega
      · rw [List.mem_singleton] at h;omega
    · exact ⟨by omega,by omega⟩
    · first|exact ⟨rfl,rfl⟩|(simp;done)|(simp;exact ⟨fun _ _=>rfl,rfl⟩)
  · (refine Aiz ⟨.inr rfl,[112,113],[],_,by decide,rfl,?_⟩;(try simp (disch:=omega) only [push_cast,seval,↓Aqz,↓Amz,↓List.map_cons,↓List.map_nil]))
    refine ⟨xs,y,q + 1,⟨⟨by have:=hxs.2;omega,fun v hv=>by have:=hxs.1 v hv;omega⟩,by omega,hy2⟩,?_,?_⟩
    · exact ⟨by omega,by omega⟩
    · first|exact ⟨rfl,rfl⟩|(simp;done)|(simp;exact ⟨fun _ _=>rfl,rfl⟩)


set_option maxHeartbeats 8000000 in
theorem spick_ok (e xs:List Int) (z n:Nat) (hz:e.length=z) (hn:xs.length=n) (hb:(z ≤ 1000000 ∧ n ≤ 1000000) ∧ ∀ x ∈ xs,0 ≤ x ∧ x < z):BCall Try.prog 63 [.rows false (IL e) z,.rows false (IL xs) n] [] (OI (xs.map (gE e))):=by
  subst hz hn
  obtain ⟨⟨hb0,hb1⟩,hb2⟩:=hb
  refine A7z (pins:=[]) (pin:=0) l63_eq rfl rfl rfl ?_
  obtain ⟨U,hU⟩:∃ U:Nat → List Int,∀ k,U k=(xs.take k).map (gE e):=⟨_,fun _=>rfl⟩
  have hU0:U 0=[]:=hU 0
  (repeat' (first
 | (first|refine Akz ?_|refine Aez ?_)
 | ((first|refine Alz ?_|refine Adz ?_|refine Agz ?_|refine Ahz ?_);simp (disch:=omega) only [push_cast,seval,l63r0,l63r1,l63r2,l63r3,l63r4,l63r5,l63r6])
 | ((first|refine Aaz ?_ ?_|refine Acz ?_ ?_|refine Abz ?_ ?_)<;>intro h<;>(try simp only [h])<;>(try simp only [bitvec_to_nat] at h)<;>(try simp only [h])<;>(first|(exfalso;omega)|(exfalso;simp_all;done)|(simp (disch:=omega) only [push_cast,seval])|skip))
 | (refine Aiz ⟨.inr rfl,[112],[],_,by decide,rfl,?_⟩;(try simp (disch:=omega) only [push_cast,seval,↓Aqz,↓Amz,↓List.map_cons,↓List.map_nil]))))
  refine A2z (fun k:Nat=>mkS [(0,RI e),(1,RI xs),(5,.own 112 k 1),(6,.int .i64 k)] [(112,IL (U k))]) (fun k=>k ≤ xs.length) (fun k=>xs.length - k) 0 (Nat.zero_le _) ?_ ?_
  · (refine Sub.of_lists ?_ ?_ ?_ ?_ ?_<;>simp [Vw.mkS,Vw.lk,Vw.hk,AV.inn,innL,Arz,Aoz,Atz,-List.map_set,-List.getD_eq_getElem?_getD,hU0])
  · intro k hk
    have hkl:(U k).length=k:=by rw [hU,List.length_map,List.length_take];omega
    by_cases hlt:k < xs.length
    · have hx:=hb2 _ (A5z hlt)
      obtain ⟨c,hc⟩:∃ c:Nat,xs.getD k 0=c:=⟨(xs.getD k 0).toNat,by omega⟩
      have hc5:c < e.length:=by omega
      have hge:gE e (xs.getD k 0)=e.getD c 0:=by unfold gE;rw [hc,Int.toNat_natCast]
      have hs:U (k + 1)=U k ++ [e.getD c 0]:=by rw [hU,hU,Bjz xs k hlt,List.map_append,← hge];rfl
      clear hU hge hU0
      (repeat' (first
 | (first|refine Akz ?_|refine Aez ?_)
 | ((first|refine Alz ?_|refine Adz ?_|refine Agz ?_|refine Ahz ?_);simp (disch:=omega) only [push_cast,seval,l63r0,l63r1,l63r2,l63r3,l63r4,l63r5,l63r6,hc,hkl,List.length_map])
 | ((first|refine Aaz ?_ ?_|refine Acz ?_ ?_|refine Abz ?_ ?_)<;>intro h<;>(try simp only [h])<;>(try simp only [bitvec_to_nat] at h)<;>(try simp only [h])<;>(first|(exfalso;omega)|(exfalso;simp_all;done)|(simp (disch:=omega) only [push_cast,seval,hc,hkl,List.length_map])|skip))
 | (refine Aiz ⟨.inr rfl,[112],[],_,by decide,rfl,?_⟩;(try simp (disch:=omega) only [push_cast,seval,↓Aqz,↓Amz,↓List.map_cons,↓List.map_nil,hc,hkl,List.length_map]))))
      refine ⟨k + 1,by omega,by omega,?_⟩
      (refine Sub.of_lists ?_ ?_ ?_ ?_ ?_<;>simp [Vw.mkS,Vw.lk,Vw.hk,AV.inn,innL,Arz,Aoz,Atz,-List.map_set,-List.getD_eq_getElem?_getD,hs])
    · have ek:U k=xs.map (gE e):=by rw [hU,List.take_of_length_le (by omega)]
      rw [ek] at hkl ⊢
      clear hU ek
      generalize xs.map (gE e)=W at *
      (repeat' (first
 | (first|refine Akz ?_|refine Aez ?_)
 | ((first|refine Alz ?_|refine Adz ?_|refine Agz ?_|refine Ahz ?_);simp (disch:=omega) only [push_cast,seval,l63r0,l63r1,l63r2,l63r3,l63r4,l63r5,l63r6,hkl,List.length_map])
 | ((first|refine Aaz ?_ ?_|refine Acz ?_ ?_|refine Abz ?_ ?_)<;>intro h<;>(try simp only [h])<;>(try simp only [bitvec_to_nat] at h)<;>(try simp only [h])<;>(first|(exfalso;omega)|(exfalso;simp_all;done)|(simp (disch:=omega) only [push_cast,seval,hkl,List.length_map])|skip))
 | (refine Aiz ⟨.inr rfl,[112],[],_,by decide,rfl,?_⟩;(try simp (disch:=omega) only [push_cast,seval,↓Aqz,↓Amz,↓List.map_cons,↓List.map_nil,hkl,List.length_map]))))
      all_goals (first|exact ⟨by rw [hkl],rfl⟩|exact ⟨rfl,rfl⟩|skip)

end Go.Proofs.Ytfgohhkcmgiddaa
set_option linter.unusedSimpArgs false
set_option linter.unusedVariables false
set_option maxRecDepth 4000
set_option maxHeartbeats 4000000
namespace Go.Proofs.Ytfgohhkcmgiddaa
open VwM Vw Go

attribute [local go_sem] Oper.semAt_some
open Go.RowKit Go.Shelf in
set_option maxRecDepth 100000 in
set_option maxHeartbeats 4000000 in
/-- The iterator of slices.Backward: the elements from the last to the first,each with its index. -/
theorem bwd1_in {α:Type} (ei enc:α → Int) (l Bs b off len cap:Nat) (p:Option Addr) (xs:List α) (hx:xs.length=len) (hp:0 < len → p=some ⟨b,off,none⟩) (hreach:len ≤ 1099511627776) (J Jx:List α → World → Prop)
    (hY:∀ pre x W,J pre W → pre.length < len → YieldAt Fence.wide 1 Try.prog l #[.int .i64 (ei x),.int .i64 (enc x)] W fun e W' =>
      (e=.returned (.bool true) ∧ J (pre ++ [x]) W' ∧ (W'.heap[Bs]?=W.heap[Bs]? ∧ W'.heap[b]?=W.heap[b]?)) ∨ (e=.returned (.bool false) ∧ Jx (pre ++ [x]) W'))
    (W:World) (hBs:W.cell? ⟨Bs,0,none⟩=some (.slice p len cap)) (hi:∀ j (h:j < xs.length),ei xs[j]=(len:Int) - 1 - j) (hc:∀ j (h:j < xs.length),W.cell? ⟨b,off + (len - 1 - j),none⟩=some (.int .i64 (enc xs[j]))) (h0:J [] W) :
    CallsIn Fence.wide 2 Try.prog 66 #[.func (.yield l) #[] #[],.pointer (some ⟨Bs,0,none⟩)] W fun e W'=>(∃ v,e=.returned v) ∧
      ((∃ ys,ys=xs ∧ J ys W') ∨ (∃ pre,pre <+: xs ∧ Jx pre W')):=by
  refine callsIn_of_wp Try.func66 rfl trivial ?_ rfl
  simp only [Try.ntmps66,List.size_toArray,List.length_cons,List.length_nil,Nat.reduceAdd,Nat.reduceSub,Array.replicate_succ,Array.replicate_zero,List.push_toArray,List.append_toArray,List.nil_append,List.cons_append]
  gi_wp2
  gi_loopw [3] (fun i wr=>∃ k:Nat,k ≤ len ∧ i=.int .i64 ((len:Int) - 1 - k) ∧ J (xs.take k) wr ∧ wr.heap[Bs]?=W.heap[Bs]? ∧ wr.heap[b]?=W.heap[b]?)
    (fun i _=>(intOf i + 1).toNat)
  case atStart=>exact ⟨0,Nat.zero_le _,by simp [RowKit.wrap64],by simpa using h0,rfl,rfl⟩
  case round =>
    obtain ⟨k,hk,rfl,hJs,hn1,hn2⟩:=hrel
    have hBw:wr.cell? ⟨Bs,0,none⟩=some (.slice p len cap):=(World.cell?_of_block (a:=⟨Bs,0,none⟩) hn1).trans hBs
    by_cases hlt:k < len
    · have hkx:k < xs.length:=by omega
      obtain ⟨q,hq⟩:∃ q:Nat,q=len - 1 - k:=⟨_,rfl⟩
      have hqi:(len:Int) - 1 - k=q:=by omega
      have hcx:wr.cell? ⟨b,off + q,none⟩=some (.int .i64 (enc xs[k])):=by rw [hq];exact (World.cell?_of_block (a:=⟨b,off + (len - 1 - k),none⟩) hn2).trans (hc k hkx)
      obtain rfl:p=some ⟨b,off,none⟩:=hp (by omega)
      obtain ⟨fn,tmps,assign,body,hy,hR⟩:=hY (xs.take k) xs[k] wr hJs (by rw [List.length_take];omega)
      rw [hi k hkx,hqi] at hy
      have hq2:q < len:=by omega
      clear hq
      rw [hqi]
      gi_wp2
      refine hR.mono ?_
      rintro e W3 (⟨rfl,hJ3,hk3,hk4⟩|⟨rfl,hJx3⟩)
      · gi_wp2
        go_roundw
        case rel=>exact ⟨k + 1,by omega,by simp [RowKit.wrap64]<;>omega,by rw [List.take_succ_eq_append_getElem hkx];exact hJ3,hk3.trans hn1,hk4.trans hn2⟩
        case measure=>simp [intOf,RowKit.wrap64]<;>omega
      · gi_wp2
        refine bodyPost_ret (results_none rfl _ _ _) rfl ?_
        exact ⟨⟨_,rfl⟩,.inr ⟨_,by rw [← List.take_succ_eq_append_getElem hkx];exact List.take_prefix _ _,hJx3⟩⟩
    · obtain rfl:k=len:=by omega
      gi_wp2
      go_end0
      exact ⟨⟨_,rfl⟩,.inl ⟨_,rfl,by rw [List.take_of_length_le (by omega)] at hJs;exact hJs⟩⟩

open Go.RowKit in
theorem bwd_iter {α:Type} (ei enc:α → Int) (xs:List α) (zs:List Int) (n id:Nat) (H:Nat → Option (List AV)) (hH:H id=some [.rows false (IL zs) n]) (hn:zs.length=n) (hb:n ≤ 1099511627776) (hl:xs.length=n)
    (hx:∀ j (h:j < xs.length),ei xs[j]=(n:Int) - 1 - j ∧ zs[n - 1 - j]?=some (enc xs[j])):IterOk Try.prog 66 [.ref id 1 0] [id] H xs (fun x=>[.int .i64 (ei x),.int .i64 (enc x)]):=by
  refine ⟨Go.Proofs.enters_of Try.func66 (by kernel_rfl) rfl,fun C vs hk hCH hvs hd=>?_⟩
  obtain ⟨vs⟩:=vs
  rcases vs with _|⟨v,_|⟨v',t⟩⟩
  · simp at hvs
  · simp only [DenP,Den,and_true] at hd
    obtain ⟨_,cs,hc1,_,hsp,hc2⟩:=hd
    rw [hCH,hH] at hc1
    injection hc1 with hc1
    subst hc1
    obtain ⟨g,hg,rfl⟩:=hc2 rfl
    rcases hk.has id _ (by rw [hCH];exact hH) hsp with ⟨_,h0⟩|⟨g',cur,e,a1,a2,a3⟩
    · cases h0
    · rw [hg] at a1
      injection a1 with a1
      subst a1
      obtain ⟨cur⟩:=cur
      rcases cur with _|⟨v0,cur⟩
      · simp [DenP] at a3
      · simp only [DenP,Den,and_true] at a3
        have hglt:=lt_of_heap a2
        have hcell:∀ W:World,W.heap[g]?=C.w.heap[g]? → W.cell? ⟨g,0,none⟩=some v0:=fun W hW=>by simp [World.cell?,hW,a2]
        rcases a3 with ⟨he,h1,h2⟩|⟨g2,o,cap,cur2,e2,fz2,b1,b2,b3,b4,b5⟩
        · -- no elements
          obtain ⟨p,c,hp⟩:=he.at
          have hz:xs=[]:=List.eq_nil_of_length_eq_zero (by omega)
          refine ⟨fun x=>#[.int .i64 (ei x),.int .i64 (enc x)],[g],fun q hq=>?_,fun _=>rfl,fun C' x _ _ _=>by simp [DenP,Den],?_⟩
          · simp only [List.mem_singleton] at hq
            subst hq
            exact ⟨hglt,fun j hj=>by simp [hk.inj j id q hj hg]⟩
          · intro l J Jx W hW hJ hJx hY h0
            have hWg:W.heap[g]?=C.w.heap[g]?:=hW.block g hglt
            subst hz
            refine bwd1_in ei enc l g 0 0 0 c p [] rfl (by omega) (by omega) J Jx (fun pre x W1 _ hlen=>by omega) W (by rw [hcell W hWg,hp]) (fun j h=>by cases h) (fun j h=>by cases h) h0
        · have hg2:∀ j,C.M j ≠ some g2:=b3.1
          have h2lt:=lt_of_heap b2
          refine ⟨fun x=>#[.int .i64 (ei x),.int .i64 (enc x)],[g,g2],fun q hq=>?_,fun _=>rfl,fun C' x _ _ _=>by simp [DenP,Den],?_⟩
          · simp only [List.mem_cons,List.not_mem_nil,or_false] at hq
            rcases hq with rfl|rfl
            · exact ⟨hglt,fun j hj=>by simp [hk.inj j id q hj hg]⟩
            · exact ⟨h2lt,fun j hj=>absurd hj (hg2 j)⟩
          · intro l J Jx W hW hJ hJx hY h0
            have hWg:W.heap[g]?=C.w.heap[g]?:=hW.block g hglt
            have hWg2:W.heap[g2]?=C.w.heap[g2]?:=hW.block g2 h2lt
            refine bwd1_in ei enc l g g2 o n cap (some ⟨g2,o,none⟩) xs hl (fun _=>rfl) hb J Jx (fun pre x W1 hj hlen=>?_) W (by rw [hcell W hWg,b1]) (fun j h=>(hx j h).1) (fun j h=>?_) h0
            · obtain ⟨fn,tmps,asg,body,y1,y2⟩:=hY pre x W1 hj (by omega)
              exact ⟨fn,tmps,asg,body,y1,y2.mono fun e W' h=>h.imp (fun ⟨z1,z2,z3⟩=>⟨z1,z2,z3 g (by simp),z3 g2 (by simp)⟩) (fun h=>h)⟩
            · obtain ⟨h3,h4⟩:=hx j h
              rw [Bbz] at b5
              have h5:(IL zs)[n - 1 - j]?=some (.int .i64 (enc xs[j])):=by simp [IL,h4]
              obtain ⟨u,hu1,hu2⟩:=b5 _ _ h5
              simp only [Den] at hu2
              subst hu2
              rw [List.getElem?_drop] at hu1
              simp only [World.cell?,hWg2,b2]
              simpa using hu1
  · simp at hvs

end Go.Proofs.Ytfgohhkcmgiddaa
set_option linter.unusedSimpArgs false
set_option linter.unusedVariables false
set_option maxRecDepth 4000
set_option maxHeartbeats 4000000
namespace Go.Proofs.Ytfgohhkcmgiddaa
open VwM Vw Go

theorem Hqz (xs:List Int) (n:Nat) (hn:xs.length=n) (hb:n ≤ 1099511627776):BCall Try.prog 59 [.rows false (IL xs) n] [] (fun r H'=>r=.clo (.func 66) [] [.ref 0 1 0] ∧ H'=[[.rows false (IL xs) n]]):=by
  subst hn
  refine A7z (pins:=[]) (pin:=0) l59_eq rfl rfl rfl ?_
  (repeat' (first
 | (first|refine Akz ?_|refine Aez ?_)
 | ((first|refine Alz ?_|refine Adz ?_|refine Agz ?_|refine Ahz ?_);simp (disch:=omega) only [push_cast,seval,l59r0,l59r1])
 | ((first|refine Aaz ?_ ?_|refine Acz ?_ ?_|refine Abz ?_ ?_)<;>intro h<;>(try simp only [h])<;>(try simp only [bitvec_to_nat] at h)<;>(try simp only [h])<;>(first|(exfalso;omega)|(exfalso;simp_all;done)|(simp (disch:=omega) only [push_cast,seval])|skip))
 | (refine Aiz ⟨.inr rfl,[16],[],_,by decide,rfl,?_⟩;(try simp (disch:=omega) only [push_cast,seval,↓Aqz,↓Amz,↓List.map_cons,↓List.map_nil]))))
  all_goals exact ⟨rfl,rfl⟩


set_option maxHeartbeats 16000000 in
theorem waysOf_ok (e w L:List Int) (m:Nat) (hm:L.length=m) (he:e.length=5 ∧ w.length=5) (hb:m ≤ 6 ∧ (∀ x ∈ L,0 ≤ x ∧ x ≤ 4) ∧ ∀ x ∈ L,0 ≤ gE e x ∧ gE e x ≤ 60):BCall Try.prog 44 [.agg (IL e),.rows false (IL L) m,.agg (IL w)] [] (fun r H'=>r=.own 0 (pr (L.map (gE e))).toNat 5 ∧ H'=[IL (waysF e L w (pr (L.map (gE e))).toNat)]):=by
  subst hm
  obtain ⟨h5,hw5⟩:=he
  obtain ⟨hb0,hb1,hb2⟩:=hb
  have hg9:good9 (L.map (gE e)):=⟨fun x hx=>by obtain ⟨y,hy,rfl⟩:=List.mem_map.1 hx;exact hb2 y hy,by simpa using hb0⟩
  have hp9:=Ccz hg9
  obtain ⟨n,hn⟩:∃ n:Nat,pr (L.map (gE e))=n:=⟨(pr (L.map (gE e))).toNat,by omega⟩
  rw [hn,Int.toNat_natCast]
  refine A7z (pins:=[]) (pin:=0) l44_eq rfl rfl rfl ?_
  have q1:e.length=5 ∧ L.length ≤ 1099511627776 ∧ ∀ x ∈ L,0 ≤ x ∧ x ≤ 4:=⟨h5,by omega,hb1⟩
  (repeat' (first
 | (first|refine Akz ?_|refine Aez ?_)
 | ((first|refine Alz ?_|refine Asz (mid:=l44r9a) (post:=l44r9b) Axz (by decide) ?_|refine Asz (mid:=l44r10a) (post:=l44r10b) Axz (by decide) ?_|refine Adz ?_|refine Agz ?_|refine Ahz ?_);simp (disch:=omega) only [push_cast,seval,l44r0,l44r1,l44r2,l44r3,l44r4,l44r5,l44r6,l44r7,l44r8,l44r9a,l44r9b,l44r9,l44r10a,l44r10b,l44r10,l44r11,l44r12,h5,hw5,hn,Epz,Auz,Bpz])
 | ((first|refine Aaz ?_ ?_|refine Acz ?_ ?_|refine Abz ?_ ?_)<;>intro h<;>(try simp only [h])<;>(try simp only [bitvec_to_nat] at h)<;>(try simp only [h])<;>(first|(exfalso;omega)|(exfalso;simp_all;done)|(simp (disch:=omega) only [push_cast,seval,h5,hw5,hn,Epz,Auz,Bpz])|skip))
 | ((first|((with_reducible refine Apz (f:=59) true ?_);simp (disch:=omega) only [push_cast,seval,h5,hw5,hn,Epz,Auz,Bpz];(refine call0D (Hqz _ _ ?_ ?_) ?_;(iterate 2 (exact sd));rintro _ _ ⟨rfl,rfl⟩)))<;>(try simp (disch:=omega) only [push_cast,seval,h5,hw5,hn,Epz,Auz,Bpz]))
 | ((first|refine Apz false ?_|refine qcallD_of false ?_);simp (disch:=omega) only [push_cast,seval,h5,hw5,hn,Epz,Auz,Bpz])
 | ((first|((first|refine call0D (tblOf_ok _ _ _ ?_ ?_) ?_|refine qcall0D (tblOf_ok _ _ _ ?_ ?_) ⟨_,_,rfl,rfl⟩ ?_);(iterate 2 (exact sd));rintro _ _ ⟨rfl,rfl⟩)|((first|refine call0D (BCall.ofP (product9_ok _ _ ?_ ?_)) ?_|refine qcall0D (BCall.ofP (product9_ok _ _ ?_ ?_)) ⟨_,_,rfl,rfl⟩ ?_);(iterate 2 (exact sd));rintro _ _ ⟨rfl,rfl⟩))<;>(try simp (disch:=omega) only [push_cast,seval,h5,hw5,hn,Epz,Auz,Bpz]))
 | (refine Aiz ⟨.inr rfl,[256],[],_,by decide,rfl,?_⟩;(try simp (disch:=omega) only [push_cast,seval,↓Aqz,↓Amz,↓List.map_cons,↓List.map_nil,h5,hw5,hn,Epz,Auz,Bpz]))))
  refine A2z (fun k:Nat=>mkS [(1,.rows false (IL L) L.length),(3,.ref 48 5 0),(5,.ref 80 5 0),(7,.ref 112 1 0),(18,.int .i64 n),(19,.int .i64 k)] [(48,IL e),(80,IL w),(112,[.own 256 n 5]),(256,IL (wyZ e L w k n))]) (fun k=>k ≤ n) (fun k=>n - k) 0 (Nat.zero_le _) ?_ ?_
  · (refine Sub.of_lists ?_ ?_ ?_ ?_ ?_<;>simp [Vw.mkS,Vw.lk,Vw.hk,AV.inn,innL,Arz,Aoz,Atz,-List.map_set,-List.getD_eq_getElem?_getD,wyZ_zero])
  · intro k hk
    have hzl:=wyZ_len (e:=e) (L:=L) hw5 hk
    by_cases hkn:k < n
    · have hpos:∀ x ∈ L,(0 ≤ x ∧ x ≤ 4) ∧ 0 < gE e x ∧ gE e x ≤ 60:=fun x hx=>by
        have:=B7z (xs:=L.map (gE e)) (by omega) (fun z hz=>by obtain ⟨y,hy,rfl⟩:=List.mem_map.1 hz;exact (hb2 y hy).1) _ (List.mem_map.2 ⟨x,hx,rfl⟩)
        exact ⟨hb1 x hx,this,(hb2 x hx).2⟩
      have hst:=wyZ_store (e:=e) (L:=L) (n:=n) hw5 hw5 hkn
      (repeat' (first
 | (first|refine Akz ?_|refine Aez ?_)
 | ((first|refine Alz ?_|refine Asz (mid:=l44r9a) (post:=l44r9b) Axz (by decide) ?_|refine Asz (mid:=l44r10a) (post:=l44r10b) Axz (by decide) ?_|refine Adz ?_|refine Agz ?_|refine Ahz ?_);simp (disch:=omega) only [push_cast,seval,l44r0,l44r1,l44r2,l44r3,l44r4,l44r5,l44r6,l44r7,l44r8,l44r9a,l44r9b,l44r9,l44r10a,l44r10b,l44r10,l44r11,l44r12,h5,hw5,Auz,Bpz,Anz,hzl,hst])
 | ((first|refine Aaz ?_ ?_|refine Acz ?_ ?_|refine Abz ?_ ?_)<;>intro h<;>(try simp only [h])<;>(try simp only [bitvec_to_nat] at h)<;>(try simp only [h])<;>(first|(exfalso;omega)|(exfalso;simp_all;done)|(simp (disch:=omega) only [push_cast,seval,h5,hw5,Auz,Bpz,Anz,hzl,hst])|skip))
 | ((first|((with_reducible refine Apz (f:=59) true ?_);simp (disch:=omega) only [push_cast,seval,h5,hw5,Auz,Bpz,Anz,hzl,hst];(refine call0D (Hqz _ _ ?_ ?_) ?_;(iterate 2 (exact sd));rintro _ _ ⟨rfl,rfl⟩)))<;>(try simp (disch:=omega) only [push_cast,seval,h5,hw5,Auz,Bpz,Anz,hzl,hst]))
 | ((first|refine Apz false ?_|refine qcallD_of false ?_);simp (disch:=omega) only [push_cast,seval,h5,hw5,Auz,Bpz,Anz,hzl,hst])
 | ((first|((first|refine call0D (tblOf_ok _ _ _ ?_ ?_) ?_|refine qcall0D (tblOf_ok _ _ _ ?_ ?_) ⟨_,_,rfl,rfl⟩ ?_);(iterate 2 (exact sd));rintro _ _ ⟨rfl,rfl⟩)|((first|refine call0D (BCall.ofP (product9_ok _ _ ?_ ?_)) ?_|refine qcall0D (BCall.ofP (product9_ok _ _ ?_ ?_)) ⟨_,_,rfl,rfl⟩ ?_);(iterate 2 (exact sd));rintro _ _ ⟨rfl,rfl⟩))<;>(try simp (disch:=omega) only [push_cast,seval,h5,hw5,Auz,Bpz,Anz,hzl,hst]))
 | (refine Aiz ⟨.inr rfl,[256],[],_,by decide,rfl,?_⟩;(try simp (disch:=omega) only [push_cast,seval,↓Aqz,↓Amz,↓List.map_cons,↓List.map_nil,h5,hw5,Auz,Bpz,Anz,hzl,hst]))))
      have hN:L.length ≤ 1099511627776:=by omega
      refine awp_rf (ids:=[448]) (s1:=mkS [(1,.rows false (IL L) L.length),(3,.ref 48 5 0),(5,.ref 80 5 0),(7,.ref 112 1 0),(8,.ref 128 1 0),(9,.ref 144 1 0),(18,.int .i64 n),(19,.int .i64 k)] [(144,[.int .i64 k]),(256,IL (wy3 e L w k n w)),(128,[.int .i64 k]),(48,IL e),(80,IL w),(112,[.own 256 n 5])])
        (bwL e L hpos) (fun x=>[.int .i64 x.1.1,.int .i64 x.1.2]) [1,3,5,7,8,9,18,19]
        (fun _=>[(1,.rows false (IL L) L.length),(3,.ref 48 5 0),(5,.ref 80 5 0),(7,.ref 112 1 0),(8,.ref 128 1 0),(9,.ref 144 1 0),(18,.int .i64 n),(19,.int .i64 k)])
        (fun pre=>[(144,[.int .i64 (wkS e w k (pre.map (·.1.2))).2]),(256,IL (wy3 e L w k n (wkS e w k (pre.map (·.1.2))).1)),(128,[.int .i64 k]),(48,IL e),(80,IL w),(112,[.own 256 n 5])])
        rfl ?_ (fun id hid=>by simp only [List.mem_singleton] at hid;subst hid;rfl) (bwd_iter (fun x=>x.1.1) (fun x=>x.1.2) (bwL e L hpos) L L.length 448 _ rfl rfl hN (bwL_len e L hpos) (fun j h=>bwL_get e L hpos j h)) ⟨by decide,fun _=>rfl,rfl⟩ ?_ ?_ ?_ rfl rfl ?_ ?_
      · (refine Sub.of_lists ?_ ?_ ?_ ?_ ?_<;>simp [Vw.mkS,Vw.lk,Vw.hk,AV.inn,innL,Arz,Aoz,Atz,-List.map_set,-List.getD_eq_getElem?_getD])
      · refine SubW.of ?_
        (refine Sub.of_lists ?_ ?_ ?_ ?_ ?_<;>simp [Vw.mkS,Vw.lk,Vw.hk,AV.inn,innL,Arz,Aoz,Atz,-List.map_set,-List.getD_eq_getElem?_getD,wkS_nil])
      · intro pre t ht
        simp only [List.mem_cons,List.not_mem_nil,or_false,not_or] at ht
        simp only [lk,if_neg ht.1,if_neg ht.2.1,if_neg ht.2.2.1,if_neg ht.2.2.2.1,if_neg ht.2.2.2.2.1,if_neg ht.2.2.2.2.2.1,if_neg ht.2.2.2.2.2.2.1,if_neg ht.2.2.2.2.2.2.2]
      · intro pre
        refine plainS_lists fun p hp=>?_
        simp only [List.mem_cons,List.not_mem_nil,or_false] at hp
        rcases hp with rfl|rfl|rfl|rfl|rfl|rfl<;>first|exact spL_IL _|rfl
      · rintro pre ⟨⟨xi,x⟩,hx1,hx2,hx3⟩ _
        simp only at hx1 hx2 hx3
        have hyl:=Ioz e w k (pre.map (·.1.2))
        have hrb:=wkS_bound e w k (pre.map (·.1.2)) (Int.natCast_nonneg _) (fun z hz=>by obtain ⟨q,_,rfl⟩:=List.mem_map.1 hz;exact q.2.2.1)
        have hsn:=wkS_snoc e w k (pre.map (·.1.2)) x
        rw [show pre.map (fun q:bwA e=>q.1.2) ++ [x]=(pre ++ [(⟨(xi,x),hx1,hx2,hx3⟩:bwA e)]).map (·.1.2) by simp] at hsn
        refine awp_mono (Q:=fun e' s''=>e'=.normal ∧ SubW 0 s'' (mkS [(1,.rows false (IL L) L.length),(3,.ref 48 5 0),(5,.ref 80 5 0),(7,.ref 112 1 0),(8,.ref 128 1 0),(9,.ref 144 1 0),(18,.int .i64 n),(19,.int .i64 k)] [(144,[.int .i64 (wkF e (wkS e w k (pre.map (·.1.2))) x).2]),(256,IL (wy3 e L w k n (wkF e (wkS e w k (pre.map (·.1.2))) x).1)),(128,[.int .i64 k]),(48,IL e),(80,IL w),(112,[.own 256 n 5])])) (fun e' s'' hh=>.inl ⟨hh.1,by simp only [hsn];exact hh.2⟩) ?_
        generalize hY:wkS e w k (pre.map (·.1.2))=Y at *
        obtain ⟨y,r⟩:=Y
        simp only at hyl hrb
        obtain ⟨c,rfl⟩:∃ c:Nat,x=c:=⟨x.toNat,by omega⟩
        have hc5:c < 5:=by omega
        rw [hw5] at hyl
        have hge:gE e (c:Int)=e.getD c 0:=by unfold gE;rw [Int.toNat_natCast]
        have hwl:=wy3_len (e:=e) (L:=L) hw5 hyl hkn
        have hws:=wy3_set (e:=e) (L:=L) (k:=k) (n:=n) hw5 hyl c hc5 (r.tmod (gE e c))
        simp only [wkF,Int.toNat_natCast]
        rw [hge] at hx2 hx3 hws ⊢
        show awp _ _ _ _ (mkS ((11,.int .i64 (c:Int)) :: (29,.int .i64 xi) :: (30,.int .i64 (c:Int)) :: [(1,.rows false (IL L) L.length),(3,.ref 48 5 0),(5,.ref 80 5 0),(7,.ref 112 1 0),(8,.ref 128 1 0),(9,.ref 144 1 0),(18,.int .i64 n),(19,.int .i64 k)]) _)
        have htd:0 ≤ r.tdiv (e.getD c 0) ∧ r.tdiv (e.getD c 0) ≤ r:=⟨Int.tdiv_nonneg hrb.1 (by omega),by rw [Int.tdiv_eq_ediv_of_nonneg hrb.1];exact Int.ediv_le_self _ hrb.1⟩
        (repeat' (first
 | (first|refine Akz ?_|refine Aez ?_)
 | ((first|refine Alz ?_|refine Asz (mid:=l44r9a) (post:=l44r9b) Axz (by decide) ?_|refine Asz (mid:=l44r10a) (post:=l44r10b) Axz (by decide) ?_|refine Adz ?_|refine Agz ?_|refine Ahz ?_);simp (disch:=omega) only [push_cast,seval,l44r0,l44r1,l44r2,l44r3,l44r4,l44r5,l44r6,l44r7,l44r8,l44r9a,l44r9b,l44r9,l44r10a,l44r10b,l44r10,l44r11,l44r12,h5,hw5,Anz,hwl,hws,Bmz])
 | ((first|refine Aaz ?_ ?_|refine Acz ?_ ?_|refine Abz ?_ ?_)<;>intro h<;>(try simp only [h])<;>(try simp only [bitvec_to_nat] at h)<;>(try simp only [h])<;>(first|(exfalso;omega)|(exfalso;simp_all;done)|(simp (disch:=omega) only [push_cast,seval,h5,hw5,Anz,hwl,hws,Bmz])|skip))
 | ((first|((with_reducible refine Apz (f:=59) true ?_);simp (disch:=omega) only [push_cast,seval,h5,hw5,Anz,hwl,hws,Bmz];(refine call0D (Hqz _ _ ?_ ?_) ?_;(iterate 2 (exact sd));rintro _ _ ⟨rfl,rfl⟩)))<;>(try simp (disch:=omega) only [push_cast,seval,h5,hw5,Anz,hwl,hws,Bmz]))
 | ((first|refine Apz false ?_|refine qcallD_of false ?_);simp (disch:=omega) only [push_cast,seval,h5,hw5,Anz,hwl,hws,Bmz])
 | ((first|((first|refine call0D (tblOf_ok _ _ _ ?_ ?_) ?_|refine qcall0D (tblOf_ok _ _ _ ?_ ?_) ⟨_,_,rfl,rfl⟩ ?_);(iterate 2 (exact sd));rintro _ _ ⟨rfl,rfl⟩)|((first|refine call0D (BCall.ofP (product9_ok _ _ ?_ ?_)) ?_|refine qcall0D (BCall.ofP (product9_ok _ _ ?_ ?_)) ⟨_,_,rfl,rfl⟩ ?_);(iterate 2 (exact sd));rintro _ _ ⟨rfl,rfl⟩))<;>(try simp (disch:=omega) only [push_cast,seval,h5,hw5,Anz,hwl,hws,Bmz]))))
        refine SubW.of ?_
        (refine Sub.of_lists ?_ ?_ ?_ ?_ ?_<;>simp [Vw.mkS,Vw.lk,Vw.hk,AV.inn,innL,Arz,Aoz,Atz,-List.map_set,-List.getD_eq_getElem?_getD,hws,Bmz])
      · (repeat' (first
 | (first|refine Akz ?_|refine Aez ?_)
 | ((first|refine Alz ?_|refine Asz (mid:=l44r9a) (post:=l44r9b) Axz (by decide) ?_|refine Asz (mid:=l44r10a) (post:=l44r10b) Axz (by decide) ?_|refine Adz ?_|refine Agz ?_|refine Ahz ?_);simp (disch:=omega) only [push_cast,seval,l44r0,l44r1,l44r2,l44r3,l44r4,l44r5,l44r6,l44r7,l44r8,l44r9a,l44r9b,l44r9,l44r10a,l44r10b,l44r10,l44r11,l44r12,h5,hw5,Anz])
 | ((first|refine Aaz ?_ ?_|refine Acz ?_ ?_|refine Abz ?_ ?_)<;>intro h<;>(try simp only [h])<;>(try simp only [bitvec_to_nat] at h)<;>(try simp only [h])<;>(first|(exfalso;omega)|(exfalso;simp_all;done)|(simp (disch:=omega) only [push_cast,seval,h5,hw5,Anz])|skip))
 | ((first|((with_reducible refine Apz (f:=59) true ?_);simp (disch:=omega) only [push_cast,seval,h5,hw5,Anz];(refine call0D (Hqz _ _ ?_ ?_) ?_;(iterate 2 (exact sd));rintro _ _ ⟨rfl,rfl⟩)))<;>(try simp (disch:=omega) only [push_cast,seval,h5,hw5,Anz]))
 | ((first|refine Apz false ?_|refine qcallD_of false ?_);simp (disch:=omega) only [push_cast,seval,h5,hw5,Anz])
 | ((first|((first|refine call0D (tblOf_ok _ _ _ ?_ ?_) ?_|refine qcall0D (tblOf_ok _ _ _ ?_ ?_) ⟨_,_,rfl,rfl⟩ ?_);(iterate 2 (exact sd));rintro _ _ ⟨rfl,rfl⟩)|((first|refine call0D (BCall.ofP (product9_ok _ _ ?_ ?_)) ?_|refine qcall0D (BCall.ofP (product9_ok _ _ ?_ ?_)) ⟨_,_,rfl,rfl⟩ ?_);(iterate 2 (exact sd));rintro _ _ ⟨rfl,rfl⟩))<;>(try simp (disch:=omega) only [push_cast,seval,h5,hw5,Anz]))))
        refine ⟨k + 1,by omega,by omega,?_⟩
        have hfin:(wkS e w k ((bwL e L hpos).map (·.1.2))).1=wayK e L w k:=by rw [bwL_snd];rfl
        have hnx:=wyZ_next (e:=e) (L:=L) (w:=w) hkn
        (refine Sub.of_lists ?_ ?_ ?_ ?_ ?_<;>simp [Vw.mkS,Vw.lk,Vw.hk,AV.inn,innL,Arz,Aoz,Atz,-List.map_set,-List.getD_eq_getElem?_getD,hfin,hnx])
    · have hkn:k=n:=by omega
      subst hkn
      (repeat' (first
 | (first|refine Akz ?_|refine Aez ?_)
 | ((first|refine Alz ?_|refine Asz (mid:=l44r9a) (post:=l44r9b) Axz (by decide) ?_|refine Asz (mid:=l44r10a) (post:=l44r10b) Axz (by decide) ?_|refine Adz ?_|refine Agz ?_|refine Ahz ?_);simp (disch:=omega) only [push_cast,seval,l44r0,l44r1,l44r2,l44r3,l44r4,l44r5,l44r6,l44r7,l44r8,l44r9a,l44r9b,l44r9,l44r10a,l44r10b,l44r10,l44r11,l44r12,h5,hw5,Auz,Bpz,Anz,hzl])
 | ((first|refine Aaz ?_ ?_|refine Acz ?_ ?_|refine Abz ?_ ?_)<;>intro h<;>(try simp only [h])<;>(try simp only [bitvec_to_nat] at h)<;>(try simp only [h])<;>(first|(exfalso;omega)|(exfalso;simp_all;done)|(simp (disch:=omega) only [push_cast,seval,h5,hw5,Auz,Bpz,Anz,hzl])|skip))
 | ((first|((with_reducible refine Apz (f:=59) true ?_);simp (disch:=omega) only [push_cast,seval,h5,hw5,Auz,Bpz,Anz,hzl];(refine call0D (Hqz _ _ ?_ ?_) ?_;(iterate 2 (exact sd));rintro _ _ ⟨rfl,rfl⟩)))<;>(try simp (disch:=omega) only [push_cast,seval,h5,hw5,Auz,Bpz,Anz,hzl]))
 | ((first|refine Apz false ?_|refine qcallD_of false ?_);simp (disch:=omega) only [push_cast,seval,h5,hw5,Auz,Bpz,Anz,hzl])
 | ((first|((first|refine call0D (tblOf_ok _ _ _ ?_ ?_) ?_|refine qcall0D (tblOf_ok _ _ _ ?_ ?_) ⟨_,_,rfl,rfl⟩ ?_);(iterate 2 (exact sd));rintro _ _ ⟨rfl,rfl⟩)|((first|refine call0D (BCall.ofP (product9_ok _ _ ?_ ?_)) ?_|refine qcall0D (BCall.ofP (product9_ok _ _ ?_ ?_)) ⟨_,_,rfl,rfl⟩ ?_);(iterate 2 (exact sd));rintro _ _ ⟨rfl,rfl⟩))<;>(try simp (disch:=omega) only [push_cast,seval,h5,hw5,Auz,Bpz,Anz,hzl]))
 | (refine Aiz ⟨.inr rfl,[256],[],_,by decide,rfl,?_⟩;(try simp (disch:=omega) only [push_cast,seval,↓Aqz,↓Amz,↓List.map_cons,↓List.map_nil,h5,hw5,Auz,Bpz,Anz,hzl]))))
      all_goals (try simp [wyZ_all])

end Go.Proofs.Ytfgohhkcmgiddaa
