import Derived.Test.YtbplegbgofnolaaCKp9
import Derived.Test.YtbplegbgofnolaaCM1
import Derived.Test.YtbplegbgofnolaaCW3
set_option linter.unusedSimpArgs false
set_option linter.unusedVariables false
set_option maxRecDepth 4000
set_option maxHeartbeats 4000000
namespace Go.Proofs.Ytbplegbgofnolaa
open VwM Vw Go

theorem I2z (bs:List Int) (p:Int) (hb:okB bs) (hp:0 ≤ p ∧ p ≤ 900000):BCall Try.prog 105 [.ref 0 2 0] [RD bs p] (fun r H'=>∃ xs q,(good4 xs ∧ xs.length ≤ 4 ∧ pr xs ≤ 60) ∧ (p ≤ q ∧ q ≤ p + 10) ∧ r=.own 1 xs.length 1 ∧ H'=[RD bs q,IL xs]):=by
  refine A3z (pins:=[0]) (pin:=1) l105_eq rfl rfl rfl ?_
  (repeat' (first
 | (first|refine Anz ?_|refine Agz ?_)
 | ((first|refine Aoz ?_|refine Afz ?_|refine Ahz ?_|refine Aiz ?_);simp (disch:=omega) only [push_cast,seval,l105r0,l105r1,l105r2,l105r3,l105r4,l105r5,l105r6,l105r7,l105r8])
 | ((first|refine Acz ?_ ?_|refine Aez ?_ ?_|refine Adz ?_ ?_)<;>intro h<;>(try simp only [h])<;>(try simp only [bitvec_to_nat] at h)<;>(try simp only [h])<;>(first|(exfalso;omega)|(exfalso;simp_all;done)|(simp (disch:=omega) only [push_cast,seval])|skip))
 | ((first|((with_reducible refine callD_ids (f:=46) (args:=[Operand.tmp 7,Operand.tmp 8]) [0,128] true ?_);simp (disch:=omega) only [push_cast,seval];(refine Axz (id:=0) (id':=128) (by decide) (A0z _ _ _ _ ?_ ?_ ?_ ?_ ?_) (by (simp (disch:=omega) only [push_cast,seval])<;>rfl) (by (simp (disch:=omega) only [push_cast,seval])<;>rfl) ?_;(iterate 5 (exact sd));rintro _ _ ⟨x,hx,hx0,rfl,rfl⟩))|((with_reducible refine callD_ids (f:=46) (args:=[Operand.tmp 14,Operand.tmp 15]) [0,240] true ?_);simp (disch:=omega) only [push_cast,seval];(refine Axz (id:=0) (id':=240) (by decide) (A0z _ _ _ _ ?_ ?_ ?_ ?_ ?_) (by (simp (disch:=omega) only [push_cast,seval])<;>rfl) (by (simp (disch:=omega) only [push_cast,seval])<;>rfl) ?_;(iterate 5 (exact sd));rintro _ _ ⟨x,hx,hx0,rfl,rfl⟩))|((with_reducible refine callD_ids (f:=46) [0] true ?_);simp (disch:=omega) only [push_cast,seval];(refine Bbz (id:=0) (Bfz _ _ _ _ ?_ ?_ ?_ ?_ ?_) (by (simp (disch:=omega) only [push_cast,seval])<;>rfl) ?_;(iterate 5 (exact sd));rintro _ _ ⟨x,hx,hx0,rfl,rfl⟩))|((with_reducible refine qcallI_of (f:=46) [0] true ?_);simp (disch:=omega) only [push_cast,seval];(refine Bdz (id:=0) (Bfz _ _ _ _ ?_ ?_ ?_ ?_ ?_) (by (simp (disch:=omega) only [push_cast,seval])<;>rfl) (by decide) (by simp only [Bmz,Byz];exact ⟨_,_,_,List.mem_cons_self,by omega,rfl,rfl⟩) ?_;(iterate 5 (exact sd));rintro _ _ ⟨x,hx,hx0,rfl,rfl⟩)))<;>(try simp (disch:=omega) only [push_cast,seval]))
 | ((first|refine Aqz false ?_|refine qcallD_of false ?_);simp (disch:=omega) only [push_cast,seval])
 | ((first|((first|refine call0D (BCall.ofP (scount_ok _ _ ?_ ?_)) ?_|refine qcall0D (BCall.ofP (scount_ok _ _ ?_ ?_)) ⟨_,_,rfl,rfl⟩ ?_);(iterate 2 (exact sd));rintro _ _ ⟨rfl,rfl⟩))<;>(try simp (disch:=omega) only [push_cast,seval]))
 | (refine Akz ⟨.inr rfl,[96],[],_,by decide,rfl,?_⟩;(try simp (disch:=omega) only [push_cast,seval,↓Alz,↓Ajz,↓List.map_cons,↓List.map_nil]))))
  have hn:0 ≤ x ∧ x ≤ 4:=by
    simp only [Bmz,Byz,List.mem_cons,List.not_mem_nil,or_false] at hx
    omega
  refine Azz (fun y:List Int × Int × Int=>mkS [(0,.ref 0 2 0),(3,.own 96 y.1.length 1),(4,.int .i64 y.2.1)] [(0,RD bs y.2.2),(96,IL y.1)])
    (fun y=>(((∀ x ∈ y.1,0 ≤ x ∧ x ≤ 60) ∧ pr y.1 ≤ 60) ∧ (y.1.length:Int) + y.2.1 ≤ 4) ∧ 0 ≤ y.2.1 ∧ p ≤ y.2.2 ∧ y.2.2 + y.2.1 ≤ p + 10) (fun y=>y.2.1.toNat) ([],x,p + 1) ⟨⟨⟨(fun x h=>by cases h),by simp [pr]⟩,by simp;omega⟩,by simp only;omega⟩ ?_ ?_
  · (refine Sub.of_lists ?_ ?_ ?_ ?_ ?_<;>simp [Vw.mkS,Vw.lk,Vw.hk,AV.inn,innL,Arz,Amz,Atz,-List.map_set,-List.getD_eq_getElem?_getD])
  · rintro ⟨xs,n,q⟩ ⟨⟨⟨hxs,hpr⟩,hlen⟩,h0,hq1,hq2⟩
    clear hx hx0 hn
    simp only at hxs hpr hlen h0 hq1 hq2 ⊢
    by_cases hlt:n > 0
    · have hg:good4 xs:=⟨hxs,by omega⟩
      have hpb:=Crz hg
      (repeat' (first
 | (first|refine Anz ?_|refine Agz ?_)
 | ((first|refine Aoz ?_|refine Afz ?_|refine Ahz ?_|refine Aiz ?_);simp (disch:=omega) only [push_cast,seval,l105r0,l105r1,l105r2,l105r3,l105r4,l105r5,l105r6,l105r7,l105r8,hlt])
 | ((first|refine Acz ?_ ?_|refine Aez ?_ ?_|refine Adz ?_ ?_)<;>intro h<;>(try simp only [h])<;>(try simp only [bitvec_to_nat] at h)<;>(try simp only [h])<;>(first|(exfalso;omega)|(exfalso;simp_all;done)|(simp (disch:=omega) only [push_cast,seval,hlt])|skip))
 | ((first|((with_reducible refine callD_ids (f:=46) (args:=[Operand.tmp 7,Operand.tmp 8]) [0,128] true ?_);simp (disch:=omega) only [push_cast,seval,hlt];(refine Axz (id:=0) (id':=128) (by decide) (A0z _ _ _ _ ?_ ?_ ?_ ?_ ?_) (by (simp (disch:=omega) only [push_cast,seval,hlt])<;>rfl) (by (simp (disch:=omega) only [push_cast,seval,hlt])<;>rfl) ?_;(iterate 5 (exact sd));rintro _ _ ⟨x,hx,hx0,rfl,rfl⟩))|((with_reducible refine callD_ids (f:=46) (args:=[Operand.tmp 14,Operand.tmp 15]) [0,240] true ?_);simp (disch:=omega) only [push_cast,seval,hlt];(refine Axz (id:=0) (id':=240) (by decide) (A0z _ _ _ _ ?_ ?_ ?_ ?_ ?_) (by (simp (disch:=omega) only [push_cast,seval,hlt])<;>rfl) (by (simp (disch:=omega) only [push_cast,seval,hlt])<;>rfl) ?_;(iterate 5 (exact sd));rintro _ _ ⟨x,hx,hx0,rfl,rfl⟩))|((with_reducible refine callD_ids (f:=46) [0] true ?_);simp (disch:=omega) only [push_cast,seval,hlt];(refine Bbz (id:=0) (Bfz _ _ _ _ ?_ ?_ ?_ ?_ ?_) (by (simp (disch:=omega) only [push_cast,seval,hlt])<;>rfl) ?_;(iterate 5 (exact sd));rintro _ _ ⟨x,hx,hx0,rfl,rfl⟩))|((with_reducible refine qcallI_of (f:=46) [0] true ?_);simp (disch:=omega) only [push_cast,seval,hlt];(refine Bdz (id:=0) (Bfz _ _ _ _ ?_ ?_ ?_ ?_ ?_) (by (simp (disch:=omega) only [push_cast,seval,hlt])<;>rfl) (by decide) (by simp only [Bmz,Byz];exact ⟨_,_,_,List.mem_cons_self,by omega,rfl,rfl⟩) ?_;(iterate 5 (exact sd));rintro _ _ ⟨x,hx,hx0,rfl,rfl⟩)))<;>(try simp (disch:=omega) only [push_cast,seval,hlt]))
 | ((first|refine Aqz false ?_|refine qcallD_of false ?_);simp (disch:=omega) only [push_cast,seval,hlt])
 | ((first|((first|refine call0D (BCall.ofP (scount_ok _ _ ?_ ?_)) ?_|refine qcall0D (BCall.ofP (scount_ok _ _ ?_ ?_)) ⟨_,_,rfl,rfl⟩ ?_);(iterate 2 (exact sd));rintro _ _ ⟨rfl,rfl⟩))<;>(try simp (disch:=omega) only [push_cast,seval,hlt]))
 | (refine Akz ⟨.inr rfl,[96],[],_,by decide,rfl,?_⟩;(try simp (disch:=omega) only [push_cast,seval,↓Alz,↓Ajz,↓List.map_cons,↓List.map_nil,hlt]))))
      · have hx2:0 ≤ x ∧ x ≤ 5:=by
          simp only [Bmz,Byz,List.mem_cons,List.not_mem_nil,or_false] at hx
          omega
        have hmx:0 ≤ pr xs * x ∧ pr xs * x ≤ 60 * 5:=⟨Int.mul_nonneg hpb.1 hx2.1,Int.mul_le_mul hpr hx2.2 hx2.1 (by omega)⟩
        have hw:pr xs * x ≤ 60:=by
          have h':=h
          rwa [IntWalk.i64_in _ (by omega)] at h'
        refine ⟨(xs ++ [x],n - 1,q + 1),⟨⟨⟨fun y hy=>?_,by simp only [Goz];exact hw⟩,by simp;omega⟩,by simp only;omega⟩,by simp only;omega,?_⟩
        · simp only [List.mem_append,List.mem_singleton] at hy
          rcases hy with hy|hy
          · exact hxs y hy
          · omega
        · (refine Sub.of_lists ?_ ?_ ?_ ?_ ?_<;>simp [Vw.mkS,Vw.lk,Vw.hk,AV.inn,innL,Arz,Amz,Atz,-List.map_set,-List.getD_eq_getElem?_getD])
      · refine ⟨(xs,n - 1,q + 1),⟨⟨⟨hxs,hpr⟩,by simp only;omega⟩,by simp only;omega⟩,by simp only;omega,?_⟩
        (refine Sub.of_lists ?_ ?_ ?_ ?_ ?_<;>simp [Vw.mkS,Vw.lk,Vw.hk,AV.inn,innL,Arz,Amz,Atz,-List.map_set,-List.getD_eq_getElem?_getD])
    · (repeat' (first
 | (first|refine Anz ?_|refine Agz ?_)
 | ((first|refine Aoz ?_|refine Afz ?_|refine Ahz ?_|refine Aiz ?_);simp (disch:=omega) only [push_cast,seval,l105r0,l105r1,l105r2,l105r3,l105r4,l105r5,l105r6,l105r7,l105r8,hlt])
 | ((first|refine Acz ?_ ?_|refine Aez ?_ ?_|refine Adz ?_ ?_)<;>intro h<;>(try simp only [h])<;>(try simp only [bitvec_to_nat] at h)<;>(try simp only [h])<;>(first|(exfalso;omega)|(exfalso;simp_all;done)|(simp (disch:=omega) only [push_cast,seval,hlt])|skip))
 | ((first|((with_reducible refine callD_ids (f:=46) (args:=[Operand.tmp 7,Operand.tmp 8]) [0,128] true ?_);simp (disch:=omega) only [push_cast,seval,hlt];(refine Axz (id:=0) (id':=128) (by decide) (A0z _ _ _ _ ?_ ?_ ?_ ?_ ?_) (by (simp (disch:=omega) only [push_cast,seval,hlt])<;>rfl) (by (simp (disch:=omega) only [push_cast,seval,hlt])<;>rfl) ?_;(iterate 5 (exact sd));rintro _ _ ⟨x,hx,hx0,rfl,rfl⟩))|((with_reducible refine callD_ids (f:=46) (args:=[Operand.tmp 14,Operand.tmp 15]) [0,240] true ?_);simp (disch:=omega) only [push_cast,seval,hlt];(refine Axz (id:=0) (id':=240) (by decide) (A0z _ _ _ _ ?_ ?_ ?_ ?_ ?_) (by (simp (disch:=omega) only [push_cast,seval,hlt])<;>rfl) (by (simp (disch:=omega) only [push_cast,seval,hlt])<;>rfl) ?_;(iterate 5 (exact sd));rintro _ _ ⟨x,hx,hx0,rfl,rfl⟩))|((with_reducible refine callD_ids (f:=46) [0] true ?_);simp (disch:=omega) only [push_cast,seval,hlt];(refine Bbz (id:=0) (Bfz _ _ _ _ ?_ ?_ ?_ ?_ ?_) (by (simp (disch:=omega) only [push_cast,seval,hlt])<;>rfl) ?_;(iterate 5 (exact sd));rintro _ _ ⟨x,hx,hx0,rfl,rfl⟩))|((with_reducible refine qcallI_of (f:=46) [0] true ?_);simp (disch:=omega) only [push_cast,seval,hlt];(refine Bdz (id:=0) (Bfz _ _ _ _ ?_ ?_ ?_ ?_ ?_) (by (simp (disch:=omega) only [push_cast,seval,hlt])<;>rfl) (by decide) (by simp only [Bmz,Byz];exact ⟨_,_,_,List.mem_cons_self,by omega,rfl,rfl⟩) ?_;(iterate 5 (exact sd));rintro _ _ ⟨x,hx,hx0,rfl,rfl⟩)))<;>(try simp (disch:=omega) only [push_cast,seval,hlt]))
 | ((first|refine Aqz false ?_|refine qcallD_of false ?_);simp (disch:=omega) only [push_cast,seval,hlt])
 | ((first|((first|refine call0D (BCall.ofP (scount_ok _ _ ?_ ?_)) ?_|refine qcall0D (BCall.ofP (scount_ok _ _ ?_ ?_)) ⟨_,_,rfl,rfl⟩ ?_);(iterate 2 (exact sd));rintro _ _ ⟨rfl,rfl⟩))<;>(try simp (disch:=omega) only [push_cast,seval,hlt]))
 | (refine Akz ⟨.inr rfl,[96],[],_,by decide,rfl,?_⟩;(try simp (disch:=omega) only [push_cast,seval,↓Alz,↓Ajz,↓List.map_cons,↓List.map_nil,hlt]))))
      exact ⟨xs,q,⟨⟨hxs,by omega⟩,by omega,hpr⟩,by omega,rfl,rfl⟩


set_option maxHeartbeats 16000000 in
theorem Bjz (bs:List Int) (p:Int) (sh:List Int) (m:Nat) (hm:sh.length=m) (hb:okB bs) (hp:(0 ≤ p ∧ p ≤ 900000) ∧ good4 sh ∧ pr sh ≤ 60):BCall Try.prog 75 [.ref 0 2 0,.own 1 m 1] [RD bs p,IL sh] (fun r H'=>∃ (y:List Int) (q:Int),(((y.length:Int)=pr sh) ∧ ∀ v ∈ y,-9 ≤ v ∧ v ≤ 9) ∧ (p ≤ q ∧ q ≤ p + 60) ∧ r=.agg [.own 2 sh.length 1,.own 3 y.length 1] ∧ H'=[RD bs q,IL sh,IL sh,IL y]):=by
  subst hm
  obtain ⟨⟨hp0,hp1⟩,hg,hpr⟩:=hp
  have hl:=hg.2
  have hpb:=Crz hg
  refine A3z (pins:=[0,1]) (pin:=2) l75_eq rfl rfl rfl ?_
  (repeat' (first
 | (first|refine Anz ?_|refine Agz ?_)
 | ((first|refine Aoz ?_|refine Blz (mid:=l75r4a) (post:=l75r4b) [0] Awz (by decide) ?_|refine Afz ?_|refine Ahz ?_|refine Aiz ?_);simp (disch:=omega) only [push_cast,seval,l75r0,l75r1,l75r2,l75r3,l75r4a,l75r4b,l75r4,l75r5,l75r6])
 | ((first|refine Acz ?_ ?_|refine Aez ?_ ?_|refine Adz ?_ ?_)<;>intro h<;>(try simp only [h])<;>(try simp only [bitvec_to_nat] at h)<;>(try simp only [h])<;>(first|(exfalso;omega)|(exfalso;simp_all;done)|(simp (disch:=omega) only [push_cast,seval])|skip))
 | ((first|((with_reducible refine callD_ids (f:=73) [0] true ?_);simp (disch:=omega) only [push_cast,seval];(refine Bbz (id:=0) (Baz _ _ _ ?_ ?_) (by (simp (disch:=omega) only [push_cast,seval])<;>rfl) ?_;(iterate 2 (exact sd));rintro _ _ ⟨x,hx0,hx1,rfl,rfl⟩))|((with_reducible refine qcallI_of (f:=73) [0] true ?_);simp (disch:=omega) only [push_cast,seval];(refine Bdz (id:=0) (Baz _ _ _ ?_ ?_) (by (simp (disch:=omega) only [push_cast,seval])<;>rfl) (by decide) ⟨_,_,0,by omega,Or.inr (Or.inr rfl),rfl,rfl⟩ ?_;(iterate 2 (exact sd));rintro _ _ ⟨x,hx0,hx1,rfl,rfl⟩)))<;>(try simp (disch:=omega) only [push_cast,seval]))
 | ((first|refine Aqz false ?_|refine qcallD_of false ?_);simp (disch:=omega) only [push_cast,seval])
 | ((first|((first|refine call0D (Cnz _ _ ?_ ?_) ?_|refine qcall0D (Cnz _ _ ?_ ?_) ⟨_,_,rfl,rfl⟩ ?_);(iterate 2 (exact sd));rintro _ _ ⟨rfl,rfl⟩)|((first|refine call0D (BCall.ofP (scount_ok _ _ ?_ ?_)) ?_|refine qcall0D (BCall.ofP (scount_ok _ _ ?_ ?_)) ⟨_,_,rfl,rfl⟩ ?_);(iterate 2 (exact sd));rintro _ _ ⟨rfl,rfl⟩))<;>(try simp (disch:=omega) only [push_cast,seval]))
 | (refine Akz ⟨.inr rfl,[128,352],[],_,by decide,rfl,?_⟩;(try simp (disch:=omega) only [push_cast,seval,↓Alz,↓Ajz,↓List.map_cons,↓List.map_nil]))))
  refine Cgz (fun y:List Int × Int × Int=>mkS [(0,.ref 0 2 0),(4,.ref 64 2 0),(5,.ref 80 2 0),(6,.int .i64 y.2.1)] [(0,RD bs y.2.2),(1,IL sh),(64,[.val (.slice none 0 0),.val (.slice none 0 0)]),(80,[.own 128 sh.length 1,.own 352 y.1.length 1]),(128,IL sh),(352,IL y.1)])
    (fun y=>(((y.1.length:Int) + y.2.1=pr sh ∧ 0 ≤ y.2.1) ∧ ∀ v ∈ y.1,-9 ≤ v ∧ v ≤ 9) ∧ p ≤ y.2.2 ∧ y.2.2 + y.2.1 ≤ p + pr sh) (fun y=>y.2.1.toNat) ([],pr sh,p) ⟨⟨⟨by simp,by simp only;omega⟩,fun v hv=>by cases hv⟩,by simp only;omega⟩ ?_ ?_
  · refine SubW.adoptH [80] 352 1 (by simp [Vw.hk]) (SubW.of ?_)
    simp only [adHL,List.map_cons,List.map_nil,adA,List.contains_cons,List.contains_nil]
    (refine Sub.of_lists ?_ ?_ ?_ ?_ ?_<;>simp [Vw.mkS,Vw.lk,Vw.hk,AV.inn,innL,Arz,Amz,Atz,-List.map_set,-List.getD_eq_getElem?_getD])
    all_goals (intro id hid;rcases (by omega:id=0 ∨ id=1) with rfl|rfl<;>simp)
  · rintro ⟨y,n,q⟩ ⟨⟨⟨hlen,h0⟩,hy⟩,hq1,hq2⟩
    simp only at hlen h0 hy hq1 hq2 ⊢
    by_cases hlt:n > 0
    · (repeat' (first
 | (first|refine Anz ?_|refine Agz ?_)
 | ((first|refine Aoz ?_|refine Blz (mid:=l75r4a) (post:=l75r4b) [0] Awz (by decide) ?_|refine Afz ?_|refine Ahz ?_|refine Aiz ?_);simp (disch:=omega) only [push_cast,seval,l75r0,l75r1,l75r2,l75r3,l75r4a,l75r4b,l75r4,l75r5,l75r6,hlt])
 | ((first|refine Acz ?_ ?_|refine Aez ?_ ?_|refine Adz ?_ ?_)<;>intro h<;>(try simp only [h])<;>(try simp only [bitvec_to_nat] at h)<;>(try simp only [h])<;>(first|(exfalso;omega)|(exfalso;simp_all;done)|(simp (disch:=omega) only [push_cast,seval,hlt])|skip))
 | ((first|((with_reducible refine callD_ids (f:=73) [0] true ?_);simp (disch:=omega) only [push_cast,seval,hlt];(refine Bbz (id:=0) (Baz _ _ _ ?_ ?_) (by (simp (disch:=omega) only [push_cast,seval,hlt])<;>rfl) ?_;(iterate 2 (exact sd));rintro _ _ ⟨x,hx0,hx1,rfl,rfl⟩))|((with_reducible refine qcallI_of (f:=73) [0] true ?_);simp (disch:=omega) only [push_cast,seval,hlt];(refine Bdz (id:=0) (Baz _ _ _ ?_ ?_) (by (simp (disch:=omega) only [push_cast,seval,hlt])<;>rfl) (by decide) ⟨_,_,0,by omega,Or.inr (Or.inr rfl),rfl,rfl⟩ ?_;(iterate 2 (exact sd));rintro _ _ ⟨x,hx0,hx1,rfl,rfl⟩)))<;>(try simp (disch:=omega) only [push_cast,seval,hlt]))
 | ((first|refine Aqz false ?_|refine qcallD_of false ?_);simp (disch:=omega) only [push_cast,seval,hlt])
 | ((first|((first|refine call0D (Cnz _ _ ?_ ?_) ?_|refine qcall0D (Cnz _ _ ?_ ?_) ⟨_,_,rfl,rfl⟩ ?_);(iterate 2 (exact sd));rintro _ _ ⟨rfl,rfl⟩)|((first|refine call0D (BCall.ofP (scount_ok _ _ ?_ ?_)) ?_|refine qcall0D (BCall.ofP (scount_ok _ _ ?_ ?_)) ⟨_,_,rfl,rfl⟩ ?_);(iterate 2 (exact sd));rintro _ _ ⟨rfl,rfl⟩))<;>(try simp (disch:=omega) only [push_cast,seval,hlt]))
 | (refine Akz ⟨.inr rfl,[128,352],[],_,by decide,rfl,?_⟩;(try simp (disch:=omega) only [push_cast,seval,↓Alz,↓Ajz,↓List.map_cons,↓List.map_nil,hlt]))))
      have hx9:-9 ≤ x - 9 ∧ x - 9 ≤ 9:=by omega
      refine ⟨(y ++ [x - 9],n - 1,q + 1),⟨⟨⟨by simp;omega,by simp only;omega⟩,fun v hv=>?_⟩,by simp only;omega⟩,by simp only;omega,SubW.of ?_⟩
      · rcases List.mem_append.1 hv with h|h
        · exact hy v h
        · rw [List.mem_singleton] at h;omega
      · (refine Sub.of_lists ?_ ?_ ?_ ?_ ?_<;>simp [Vw.mkS,Vw.lk,Vw.hk,AV.inn,innL,Arz,Amz,Atz,-List.map_set,-List.getD_eq_getElem?_getD])
        all_goals (intro id hid;rcases (by omega:id=0 ∨ id=1) with rfl|rfl<;>simp)
    · (repeat' (first
 | (first|refine Anz ?_|refine Agz ?_)
 | ((first|refine Aoz ?_|refine Blz (mid:=l75r4a) (post:=l75r4b) [0] Awz (by decide) ?_|refine Afz ?_|refine Ahz ?_|refine Aiz ?_);simp (disch:=omega) only [push_cast,seval,l75r0,l75r1,l75r2,l75r3,l75r4a,l75r4b,l75r4,l75r5,l75r6,hlt])
 | ((first|refine Acz ?_ ?_|refine Aez ?_ ?_|refine Adz ?_ ?_)<;>intro h<;>(try simp only [h])<;>(try simp only [bitvec_to_nat] at h)<;>(try simp only [h])<;>(first|(exfalso;omega)|(exfalso;simp_all;done)|(simp (disch:=omega) only [push_cast,seval,hlt])|skip))
 | ((first|((with_reducible refine callD_ids (f:=73) [0] true ?_);simp (disch:=omega) only [push_cast,seval,hlt];(refine Bbz (id:=0) (Baz _ _ _ ?_ ?_) (by (simp (disch:=omega) only [push_cast,seval,hlt])<;>rfl) ?_;(iterate 2 (exact sd));rintro _ _ ⟨x,hx0,hx1,rfl,rfl⟩))|((with_reducible refine qcallI_of (f:=73) [0] true ?_);simp (disch:=omega) only [push_cast,seval,hlt];(refine Bdz (id:=0) (Baz _ _ _ ?_ ?_) (by (simp (disch:=omega) only [push_cast,seval,hlt])<;>rfl) (by decide) ⟨_,_,0,by omega,Or.inr (Or.inr rfl),rfl,rfl⟩ ?_;(iterate 2 (exact sd));rintro _ _ ⟨x,hx0,hx1,rfl,rfl⟩)))<;>(try simp (disch:=omega) only [push_cast,seval,hlt]))
 | ((first|refine Aqz false ?_|refine qcallD_of false ?_);simp (disch:=omega) only [push_cast,seval,hlt])
 | ((first|((first|refine call0D (Cnz _ _ ?_ ?_) ?_|refine qcall0D (Cnz _ _ ?_ ?_) ⟨_,_,rfl,rfl⟩ ?_);(iterate 2 (exact sd));rintro _ _ ⟨rfl,rfl⟩)|((first|refine call0D (BCall.ofP (scount_ok _ _ ?_ ?_)) ?_|refine qcall0D (BCall.ofP (scount_ok _ _ ?_ ?_)) ⟨_,_,rfl,rfl⟩ ?_);(iterate 2 (exact sd));rintro _ _ ⟨rfl,rfl⟩))<;>(try simp (disch:=omega) only [push_cast,seval,hlt]))
 | (refine Akz ⟨.inr rfl,[128,352],[],_,by decide,rfl,?_⟩;(try simp (disch:=omega) only [push_cast,seval,↓Alz,↓Ajz,↓List.map_cons,↓List.map_nil,hlt]))))
      exact ⟨y,q,⟨by omega,hy⟩,by omega,rfl,rfl⟩


set_option maxHeartbeats 16000000 in
theorem Biz (bs:List Int) (p:Int) (hb:okB bs) (hp:0 ≤ p ∧ p ≤ 800000):BCall Try.prog 74 [.ref 0 2 0] [RD bs p] (fun r H'=>∃ (x y:List Int) (q:Int),((x.length ≤ 5 ∧ ∀ v ∈ x,-1 ≤ v ∧ v ≤ 60) ∧ y.length ≤ 61 ∧ ∀ v ∈ y,-9 ≤ v ∧ v ≤ 9) ∧ (p ≤ q ∧ q ≤ p + 100) ∧ r=.agg [.own 1 x.length 1,.own 2 y.length 1] ∧ H'=[RD bs q,IL x,IL y]):=by
  refine A3z (pins:=[0]) (pin:=1) l74_eq rfl rfl rfl ?_
  (repeat' (first
 | (first|refine Anz ?_|refine Agz ?_)
 | ((first|refine Aoz ?_|refine Afz ?_|refine Ahz ?_|refine Aiz ?_);simp (disch:=omega) only [push_cast,seval,l74r0,l74r1,l74r2,l74r3,l74r4,l74r5,l74r6,l74r7])
 | ((first|refine Acz ?_ ?_|refine Aez ?_ ?_|refine Adz ?_ ?_)<;>intro h<;>(try simp only [h])<;>(try simp only [bitvec_to_nat] at h)<;>(try simp only [h])<;>(first|(exfalso;omega)|(exfalso;simp_all;done)|(simp (disch:=omega) only [push_cast,seval])|skip))
 | ((first|((with_reducible refine callD_ids (f:=105) [0] true ?_);simp (disch:=omega) only [push_cast,seval];(refine Bbz (id:=0) (I2z _ _ ?_ ?_) (by (simp (disch:=omega) only [push_cast,seval])<;>rfl) ?_;(iterate 2 (exact sd));rintro _ _ ⟨xs,q,⟨hxs,hx4,hxl⟩,hq,rfl,rfl⟩))|((with_reducible refine callD_ids (f:=75) (args:=[Operand.tmp 4,Operand.tmp 6]) [0,96] true ?_);simp (disch:=omega) only [push_cast,seval];(refine Axz (id:=0) (id':=96) (by decide) (Bjz _ _ _ _ ?_ ?_ ?_) (by (simp (disch:=omega) only [push_cast,seval])<;>rfl) (by (simp (disch:=omega) only [push_cast,seval])<;>rfl) ?_;(iterate 3 (exact sd));rintro _ _ ⟨y,q,⟨hy1,hy2⟩,hq,rfl,rfl⟩))|((with_reducible refine callD_ids (f:=73) [0] true ?_);simp (disch:=omega) only [push_cast,seval];(refine Bbz (id:=0) (Baz _ _ _ ?_ ?_) (by (simp (disch:=omega) only [push_cast,seval])<;>rfl) ?_;(iterate 2 (exact sd));rintro _ _ ⟨x,hx0,hx1,rfl,rfl⟩))|((with_reducible refine qcallI_of (f:=73) [0] true ?_);simp (disch:=omega) only [push_cast,seval];(refine Bdz (id:=0) (Baz _ _ _ ?_ ?_) (by (simp (disch:=omega) only [push_cast,seval])<;>rfl) (by decide) ⟨_,_,0,by omega,Or.inr (Or.inr rfl),rfl,rfl⟩ ?_;(iterate 2 (exact sd));rintro _ _ ⟨x,hx0,hx1,rfl,rfl⟩)))<;>(try simp (disch:=omega) only [push_cast,seval]))))
  · (refine Akz ⟨.inr rfl,[112,113],[],_,by decide,rfl,?_⟩;(try simp (disch:=omega) only [push_cast,seval,↓Alz,↓Ajz,↓List.map_cons,↓List.map_nil]))
    refine ⟨xs,y ++ [1],q + 1,⟨⟨by have:=hxs.2;omega,fun v hv=>by have:=hxs.1 v hv;omega⟩,by simp;omega,fun v hv=>?_⟩,?_,?_⟩
    · rcases List.mem_append.1 hv with h|h
      · exact hy2 v h
      · rw [List.mem_singleton] at h;omega
    · exact ⟨by omega,by omega⟩
    · first|exact ⟨rfl,rfl⟩|(simp;done)|(simp;exact ⟨fun _ _=>rfl,rfl⟩)
  · (refine Akz ⟨.inr rfl,[112,113],[],_,by decide,rfl,?_⟩;(try simp (disch:=omega) only [push_cast,seval,↓Alz,↓Ajz,↓List.map_cons,↓List.map_nil]))
    refine ⟨xs ++ [-1],y,q + 1,⟨⟨by have:=hxs.2;simp;omega,fun v hv=>?_⟩,by omega,hy2⟩,?_,?_⟩
    · rcases List.mem_append.1 hv with h|h
      · have:=hxs.1 v h;omega
      · rw [List.mem_singleton] at h;omega
    · exact ⟨by omega,by omega⟩
    · first|exact ⟨rfl,rfl⟩|(simp;done)|(simp;exact ⟨fun _ _=>rfl,rfl⟩)
  · (refine Akz ⟨.inr rfl,[112,113],[],_,by decide,rfl,?_⟩;(try simp (disch:=omega) only [push_cast,seval,↓Alz,↓Ajz,↓List.map_cons,↓List.map_nil]))
    refine ⟨xs,y,q + 1,⟨⟨by have:=hxs.2;omega,fun v hv=>by have:=hxs.1 v hv;omega⟩,by omega,hy2⟩,?_,?_⟩
    · exact ⟨by omega,by omega⟩
    · first|exact ⟨rfl,rfl⟩|(simp;done)|(simp;exact ⟨fun _ _=>rfl,rfl⟩)


set_option maxHeartbeats 8000000 in
theorem spick_ok (e xs:List Int) (z n:Nat) (hz:e.length=z) (hn:xs.length=n) (hb:(z ≤ 1000000 ∧ n ≤ 1000000) ∧ ∀ x ∈ xs,0 ≤ x ∧ x < z):BCall Try.prog 88 [.rows false (IL e) z,.rows false (IL xs) n] [] (OI (xs.map (gE e))):=by
  subst hz hn
  obtain ⟨⟨hb0,hb1⟩,hb2⟩:=hb
  refine A3z (pins:=[]) (pin:=0) l88_eq rfl rfl rfl ?_
  obtain ⟨U,hU⟩:∃ U:Nat → List Int,∀ k,U k=(xs.take k).map (gE e):=⟨_,fun _=>rfl⟩
  have hU0:U 0=[]:=hU 0
  (repeat' (first
 | (first|refine Anz ?_|refine Agz ?_)
 | ((first|refine Aoz ?_|refine Afz ?_|refine Ahz ?_|refine Aiz ?_);simp (disch:=omega) only [push_cast,seval,l88r0,l88r1,l88r2,l88r3,l88r4,l88r5,l88r6])
 | ((first|refine Acz ?_ ?_|refine Aez ?_ ?_|refine Adz ?_ ?_)<;>intro h<;>(try simp only [h])<;>(try simp only [bitvec_to_nat] at h)<;>(try simp only [h])<;>(first|(exfalso;omega)|(exfalso;simp_all;done)|(simp (disch:=omega) only [push_cast,seval])|skip))
 | (refine Akz ⟨.inr rfl,[112],[],_,by decide,rfl,?_⟩;(try simp (disch:=omega) only [push_cast,seval,↓Alz,↓Ajz,↓List.map_cons,↓List.map_nil]))))
  refine Azz (fun k:Nat=>mkS [(0,RI e),(1,RI xs),(5,.own 112 k 1),(6,.int .i64 k)] [(112,IL (U k))]) (fun k=>k ≤ xs.length) (fun k=>xs.length - k) 0 (Nat.zero_le _) ?_ ?_
  · (refine Sub.of_lists ?_ ?_ ?_ ?_ ?_<;>simp [Vw.mkS,Vw.lk,Vw.hk,AV.inn,innL,Arz,Amz,Atz,-List.map_set,-List.getD_eq_getElem?_getD,hU0])
  · intro k hk
    have hkl:(U k).length=k:=by rw [hU,List.length_map,List.length_take];omega
    by_cases hlt:k < xs.length
    · have hx:=hb2 _ (A4z hlt)
      obtain ⟨c,hc⟩:∃ c:Nat,xs.getD k 0=c:=⟨(xs.getD k 0).toNat,by omega⟩
      have hc5:c < e.length:=by omega
      have hge:gE e (xs.getD k 0)=e.getD c 0:=by unfold gE;rw [hc,Int.toNat_natCast]
      have hs:U (k + 1)=U k ++ [e.getD c 0]:=by rw [hU,hU,Bhz xs k hlt,List.map_append,← hge];rfl
      clear hU hge hU0
      (repeat' (first
 | (first|refine Anz ?_|refine Agz ?_)
 | ((first|refine Aoz ?_|refine Afz ?_|refine Ahz ?_|refine Aiz ?_);simp (disch:=omega) only [push_cast,seval,l88r0,l88r1,l88r2,l88r3,l88r4,l88r5,l88r6,hc,hkl,List.length_map])
 | ((first|refine Acz ?_ ?_|refine Aez ?_ ?_|refine Adz ?_ ?_)<;>intro h<;>(try simp only [h])<;>(try simp only [bitvec_to_nat] at h)<;>(try simp only [h])<;>(first|(exfalso;omega)|(exfalso;simp_all;done)|(simp (disch:=omega) only [push_cast,seval,hc,hkl,List.length_map])|skip))
 | (refine Akz ⟨.inr rfl,[112],[],_,by decide,rfl,?_⟩;(try simp (disch:=omega) only [push_cast,seval,↓Alz,↓Ajz,↓List.map_cons,↓List.map_nil,hc,hkl,List.length_map]))))
      refine ⟨k + 1,by omega,by omega,?_⟩
      (refine Sub.of_lists ?_ ?_ ?_ ?_ ?_<;>simp [Vw.mkS,Vw.lk,Vw.hk,AV.inn,innL,Arz,Amz,Atz,-List.map_set,-List.getD_eq_getElem?_getD,hs])
    · have ek:U k=xs.map (gE e):=by rw [hU,List.take_of_length_le (by omega)]
      rw [ek] at hkl ⊢
      clear hU ek
      generalize xs.map (gE e)=W at *
      (repeat' (first
 | (first|refine Anz ?_|refine Agz ?_)
 | ((first|refine Aoz ?_|refine Afz ?_|refine Ahz ?_|refine Aiz ?_);simp (disch:=omega) only [push_cast,seval,l88r0,l88r1,l88r2,l88r3,l88r4,l88r5,l88r6,hkl,List.length_map])
 | ((first|refine Acz ?_ ?_|refine Aez ?_ ?_|refine Adz ?_ ?_)<;>intro h<;>(try simp only [h])<;>(try simp only [bitvec_to_nat] at h)<;>(try simp only [h])<;>(first|(exfalso;omega)|(exfalso;simp_all;done)|(simp (disch:=omega) only [push_cast,seval,hkl,List.length_map])|skip))
 | (refine Akz ⟨.inr rfl,[112],[],_,by decide,rfl,?_⟩;(try simp (disch:=omega) only [push_cast,seval,↓Alz,↓Ajz,↓List.map_cons,↓List.map_nil,hkl,List.length_map]))))
      all_goals (first|exact ⟨by rw [hkl],rfl⟩|exact ⟨rfl,rfl⟩|skip)

end Go.Proofs.Ytbplegbgofnolaa
