/- Texts of this verifier. -/
import Derived.Test.YtgiaepecaokcfaaDoorCB7
import Derived.Test.YtgiaepecaokcfaaDoorCM1
import Derived.Test.YtgiaepecaokcfaaDoorCW3
set_option linter.unusedSimpArgs false
set_option linter.unusedVariables false
set_option maxRecDepth 4000
set_option maxHeartbeats 4000000
namespace Go.Proofs.YtgiaepecaokcfaaDoor
open VwM Vw Go

set_option maxHeartbeats 16000000 in
theorem someFmt_ok (bs:List Int) (p:Int) (hb:okB bs) (hp:0 ≤ p ∧ p ≤ 700000):BCall Tryd.prog 12 [.ref 0 2 0] [RD bs p] (fun r H'=>∃ s big al q,s.length ≤ 5 ∧ (p ≤ q ∧ q ≤ p + 20) ∧ r=.agg [.own 1 s.length 1,.bool big,.bool al] ∧ H'=[RD bs q,IL s]):=by
  refine A3z (pins:=[0]) (pin:=1) l12_eq rfl rfl rfl ?_
  (repeat' (first
 | (first|refine Akz ?_|refine Aez ?_)
 | ((first|refine Alz ?_|refine Brz (mid:=l12r4a) (post:=l12r4b) [0] mixed (by decide) ?_|refine Brz (mid:=l12r8a) (post:=l12r8b) [0] mixed (by decide) ?_|refine Adz ?_|refine Afz ?_|refine Agz ?_);simp (disch:=omega) only [push_cast,seval,l12r0,l12r1,l12r2,l12r3,l12r4a,l12r4b,l12r4,l12r5,l12r6,l12r7,l12r8a,l12r8b,l12r8,l12r9,l12r10,l12r11])
 | ((first|refine Aaz ?_ ?_|refine Acz ?_ ?_|refine Abz ?_ ?_)<;>intro h<;>(try simp only [h])<;>(try simp only [bitvec_to_nat] at h)<;>(try simp only [h])<;>(first|(exfalso;omega)|(exfalso;simp_all;done)|(simp (disch:=omega) only [push_cast,seval])|skip))
 | ((first|((with_reducible refine callD_ids (f:=14) [0] true ?_);simp (disch:=omega) only [push_cast,seval];(refine Bgz (id:=0) (Bpz _ _ _ ?_ ?_) (by (simp (disch:=omega) only [push_cast,seval])<;>rfl) ?_;(iterate 2 (exact sd));rintro _ _ ⟨x,hx0,hx1,rfl,rfl⟩))|((with_reducible refine qcallI_of (f:=14) [0] true ?_);simp (disch:=omega) only [push_cast,seval];(refine A8z (id:=0) (Bpz _ _ _ ?_ ?_) (by (simp (disch:=omega) only [push_cast,seval])<;>rfl) (by decide) ⟨_,_,0,by omega,Or.inr (Or.inr rfl),rfl,rfl⟩ ?_;(iterate 2 (exact sd));rintro _ _ ⟨x,hx0,hx1,rfl,rfl⟩))|((with_reducible refine callD_ids (f:=13) (args:=[Operand.tmp 12,Operand.tmp 13]) [0,208] true ?_);simp (disch:=omega) only [push_cast,seval];(refine Cdz (id:=0) (id':=208) (by decide) (B9z _ _ _ _ ?_ ?_ ?_ ?_ ?_) (by (simp (disch:=omega) only [push_cast,seval])<;>rfl) (by (simp (disch:=omega) only [push_cast,seval])<;>rfl) ?_;(iterate 5 (exact sd));rintro _ _ ⟨x,hx,hx0,rfl,rfl⟩))|((with_reducible refine callD_ids (f:=13) (args:=[Operand.tmp 21,Operand.tmp 22]) [0,352] true ?_);simp (disch:=omega) only [push_cast,seval];(refine Cdz (id:=0) (id':=352) (by decide) (B9z _ _ _ _ ?_ ?_ ?_ ?_ ?_) (by (simp (disch:=omega) only [push_cast,seval])<;>rfl) (by (simp (disch:=omega) only [push_cast,seval])<;>rfl) ?_;(iterate 5 (exact sd));rintro _ _ ⟨x,hx,hx0,rfl,rfl⟩))|((with_reducible refine callD_ids (f:=13) (args:=[Operand.tmp 33,Operand.tmp 34]) [0,544] true ?_);simp (disch:=omega) only [push_cast,seval];(refine Cdz (id:=0) (id':=544) (by decide) (B9z _ _ _ _ ?_ ?_ ?_ ?_ ?_) (by (simp (disch:=omega) only [push_cast,seval])<;>rfl) (by (simp (disch:=omega) only [push_cast,seval])<;>rfl) ?_;(iterate 5 (exact sd));rintro _ _ ⟨x,hx,hx0,rfl,rfl⟩))|((with_reducible refine callD_ids (f:=13) [0] true ?_);simp (disch:=omega) only [push_cast,seval];(refine Bgz (id:=0) (Cgz _ _ _ _ ?_ ?_ ?_ ?_ ?_) (by (simp (disch:=omega) only [push_cast,seval])<;>rfl) ?_;(iterate 5 (exact sd));rintro _ _ ⟨x,hx,hx0,rfl,rfl⟩))|((with_reducible refine qcallI_of (f:=13) [0] true ?_);simp (disch:=omega) only [push_cast,seval];(refine A8z (id:=0) (Cgz _ _ _ _ ?_ ?_ ?_ ?_ ?_) (by (simp (disch:=omega) only [push_cast,seval])<;>rfl) (by decide) (by simp only [B6z,C4z];exact ⟨_,_,_,List.mem_cons_self,by omega,rfl,rfl⟩) ?_;(iterate 5 (exact sd));rintro _ _ ⟨x,hx,hx0,rfl,rfl⟩)))<;>(try simp (disch:=omega) only [push_cast,seval]))
 | (refine Aiz ⟨.inr rfl,[400],[],_,by decide,rfl,?_⟩;(try simp (disch:=omega) only [push_cast,seval,↓Ajz,↓Ahz,↓List.map_cons,↓List.map_nil]))))
  have hn:0 ≤ x ∧ x ≤ 5:=by
    simp only [B6z,C4z,List.mem_cons,List.not_mem_nil,or_false] at hx
    omega
  have hn1:1 ≤ x:=by
    simp only [B6z,C4z,List.mem_cons,List.not_mem_nil,or_false] at hx
    omega
  rename_i x1 _ _ x2 _
  generalize decide (x1=0)=big
  generalize decide (x2=0)=al
  refine A4z (fun y:List Int × Int × Int=>if y.1=[] then mkS [(0,.ref 0 2 0),(2,.ref 32 3 0),(3,.ref 48 3 0),(4,.int .i64 y.2.1)] [(0,RD bs y.2.2),(32,[.val (.slice none 0 0),.bool false,.bool false]),(48,[.val (.slice none 0 0),.bool big,.bool al])] else mkS [(0,.ref 0 2 0),(2,.ref 32 3 0),(3,.ref 48 3 0),(4,.int .i64 y.2.1)] [(0,RD bs y.2.2),(32,[.val (.slice none 0 0),.bool false,.bool false]),(400,IL y.1),(48,[.own 400 y.1.length 1,.bool big,.bool al])])
    (fun y=>((y.1.length:Int) + y.2.1=x ∧ 0 ≤ y.2.1) ∧ p ≤ y.2.2 ∧ y.2.2 + y.2.1 ≤ p + 10) (fun y=>y.2.1.toNat) ([],x,p + 1 + 1 + 1) ⟨by simp;omega,by simp only;omega⟩ ?_ ?_
  · rw [if_pos rfl]
    (refine Sub.of_lists ?_ ?_ ?_ ?_ ?_<;>simp [Vw.mkS,Vw.lk,Vw.hk,AV.inn,innL,Apz,Aoz,Asz,-List.map_set,-List.getD_eq_getElem?_getD])
  · rintro ⟨xs,n,q⟩ ⟨⟨hlen,h0⟩,hq1,hq2⟩
    simp only at hlen h0 hq1 hq2 ⊢
    clear hx hx0
    by_cases hxs:xs=[]
    · subst hxs
      rw [if_pos rfl]
      by_cases hlt:n > 0
      · (repeat' (first
 | (first|refine Akz ?_|refine Aez ?_)
 | ((first|refine Alz ?_|refine Brz (mid:=l12r4a) (post:=l12r4b) [0] mixed (by decide) ?_|refine Brz (mid:=l12r8a) (post:=l12r8b) [0] mixed (by decide) ?_|refine Adz ?_|refine Afz ?_|refine Agz ?_);simp (disch:=omega) only [push_cast,seval,l12r0,l12r1,l12r2,l12r3,l12r4a,l12r4b,l12r4,l12r5,l12r6,l12r7,l12r8a,l12r8b,l12r8,l12r9,l12r10,l12r11,hlt])
 | ((first|refine Aaz ?_ ?_|refine Acz ?_ ?_|refine Abz ?_ ?_)<;>intro h<;>(try simp only [h])<;>(try simp only [bitvec_to_nat] at h)<;>(try simp only [h])<;>(first|(exfalso;omega)|(exfalso;simp_all;done)|(simp (disch:=omega) only [push_cast,seval,hlt])|skip))
 | ((first|((with_reducible refine callD_ids (f:=14) [0] true ?_);simp (disch:=omega) only [push_cast,seval,hlt];(refine Bgz (id:=0) (Bpz _ _ _ ?_ ?_) (by (simp (disch:=omega) only [push_cast,seval,hlt])<;>rfl) ?_;(iterate 2 (exact sd));rintro _ _ ⟨x,hx0,hx1,rfl,rfl⟩))|((with_reducible refine qcallI_of (f:=14) [0] true ?_);simp (disch:=omega) only [push_cast,seval,hlt];(refine A8z (id:=0) (Bpz _ _ _ ?_ ?_) (by (simp (disch:=omega) only [push_cast,seval,hlt])<;>rfl) (by decide) ⟨_,_,0,by omega,Or.inr (Or.inr rfl),rfl,rfl⟩ ?_;(iterate 2 (exact sd));rintro _ _ ⟨x,hx0,hx1,rfl,rfl⟩))|((with_reducible refine callD_ids (f:=13) (args:=[Operand.tmp 12,Operand.tmp 13]) [0,208] true ?_);simp (disch:=omega) only [push_cast,seval,hlt];(refine Cdz (id:=0) (id':=208) (by decide) (B9z _ _ _ _ ?_ ?_ ?_ ?_ ?_) (by (simp (disch:=omega) only [push_cast,seval,hlt])<;>rfl) (by (simp (disch:=omega) only [push_cast,seval,hlt])<;>rfl) ?_;(iterate 5 (exact sd));rintro _ _ ⟨x,hx,hx0,rfl,rfl⟩))|((with_reducible refine callD_ids (f:=13) (args:=[Operand.tmp 21,Operand.tmp 22]) [0,352] true ?_);simp (disch:=omega) only [push_cast,seval,hlt];(refine Cdz (id:=0) (id':=352) (by decide) (B9z _ _ _ _ ?_ ?_ ?_ ?_ ?_) (by (simp (disch:=omega) only [push_cast,seval,hlt])<;>rfl) (by (simp (disch:=omega) only [push_cast,seval,hlt])<;>rfl) ?_;(iterate 5 (exact sd));rintro _ _ ⟨x,hx,hx0,rfl,rfl⟩))|((with_reducible refine callD_ids (f:=13) (args:=[Operand.tmp 33,Operand.tmp 34]) [0,544] true ?_);simp (disch:=omega) only [push_cast,seval,hlt];(refine Cdz (id:=0) (id':=544) (by decide) (B9z _ _ _ _ ?_ ?_ ?_ ?_ ?_) (by (simp (disch:=omega) only [push_cast,seval,hlt])<;>rfl) (by (simp (disch:=omega) only [push_cast,seval,hlt])<;>rfl) ?_;(iterate 5 (exact sd));rintro _ _ ⟨x,hx,hx0,rfl,rfl⟩))|((with_reducible refine callD_ids (f:=13) [0] true ?_);simp (disch:=omega) only [push_cast,seval,hlt];(refine Bgz (id:=0) (Cgz _ _ _ _ ?_ ?_ ?_ ?_ ?_) (by (simp (disch:=omega) only [push_cast,seval,hlt])<;>rfl) ?_;(iterate 5 (exact sd));rintro _ _ ⟨x,hx,hx0,rfl,rfl⟩))|((with_reducible refine qcallI_of (f:=13) [0] true ?_);simp (disch:=omega) only [push_cast,seval,hlt];(refine A8z (id:=0) (Cgz _ _ _ _ ?_ ?_ ?_ ?_ ?_) (by (simp (disch:=omega) only [push_cast,seval,hlt])<;>rfl) (by decide) (by simp only [B6z,C4z];exact ⟨_,_,_,List.mem_cons_self,by omega,rfl,rfl⟩) ?_;(iterate 5 (exact sd));rintro _ _ ⟨x,hx,hx0,rfl,rfl⟩)))<;>(try simp (disch:=omega) only [push_cast,seval,hlt]))
 | (refine Aiz ⟨.inr rfl,[400],[],_,by decide,rfl,?_⟩;(try simp (disch:=omega) only [push_cast,seval,↓Ajz,↓Ahz,↓List.map_cons,↓List.map_nil,hlt]))))
        rename_i x3 _ _ _
        refine ⟨([x],n - 1,q + 1),⟨⟨by simp at hlen ⊢;omega,by simp only;omega⟩,by simp only;omega,by simp only;omega⟩,by simp only;omega,?_⟩
        rw [if_neg (by simp)]
        (refine Sub.of_lists ?_ ?_ ?_ ?_ ?_<;>simp [Vw.mkS,Vw.lk,Vw.hk,AV.inn,innL,Apz,Aoz,Asz,-List.map_set,-List.getD_eq_getElem?_getD])
      · exfalso
        simp at hlen
        omega
    · rw [if_neg hxs]
      have hxl:0 < xs.length:=List.length_pos_iff.2 hxs
      by_cases hlt:n > 0
      · (repeat' (first
 | (first|refine Akz ?_|refine Aez ?_)
 | ((first|refine Alz ?_|refine Brz (mid:=l12r4a) (post:=l12r4b) [0] mixed (by decide) ?_|refine Brz (mid:=l12r8a) (post:=l12r8b) [0] mixed (by decide) ?_|refine Adz ?_|refine Afz ?_|refine Agz ?_);simp (disch:=omega) only [push_cast,seval,l12r0,l12r1,l12r2,l12r3,l12r4a,l12r4b,l12r4,l12r5,l12r6,l12r7,l12r8a,l12r8b,l12r8,l12r9,l12r10,l12r11,hlt])
 | ((first|refine Aaz ?_ ?_|refine Acz ?_ ?_|refine Abz ?_ ?_)<;>intro h<;>(try simp only [h])<;>(try simp only [bitvec_to_nat] at h)<;>(try simp only [h])<;>(first|(exfalso;omega)|(exfalso;simp_all;done)|(simp (disch:=omega) only [push_cast,seval,hlt])|skip))
 | ((first|((with_reducible refine callD_ids (f:=14) [0] true ?_);simp (disch:=omega) only [push_cast,seval,hlt];(refine Bgz (id:=0) (Bpz _ _ _ ?_ ?_) (by (simp (disch:=omega) only [push_cast,seval,hlt])<;>rfl) ?_;(iterate 2 (exact sd));rintro _ _ ⟨x,hx0,hx1,rfl,rfl⟩))|((with_reducible refine qcallI_of (f:=14) [0] true ?_);simp (disch:=omega) only [push_cast,seval,hlt];(refine A8z (id:=0) (Bpz _ _ _ ?_ ?_) (by (simp (disch:=omega) only [push_cast,seval,hlt])<;>rfl) (by decide) ⟨_,_,0,by omega,Or.inr (Or.inr rfl),rfl,rfl⟩ ?_;(iterate 2 (exact sd));rintro _ _ ⟨x,hx0,hx1,rfl,rfl⟩))|((with_reducible refine callD_ids (f:=13) (args:=[Operand.tmp 12,Operand.tmp 13]) [0,208] true ?_);simp (disch:=omega) only [push_cast,seval,hlt];(refine Cdz (id:=0) (id':=208) (by decide) (B9z _ _ _ _ ?_ ?_ ?_ ?_ ?_) (by (simp (disch:=omega) only [push_cast,seval,hlt])<;>rfl) (by (simp (disch:=omega) only [push_cast,seval,hlt])<;>rfl) ?_;(iterate 5 (exact sd));rintro _ _ ⟨x,hx,hx0,rfl,rfl⟩))|((with_reducible refine callD_ids (f:=13) (args:=[Operand.tmp 21,Operand.tmp 22]) [0,352] true ?_);simp (disch:=omega) only [push_cast,seval,hlt];(refine Cdz (id:=0) (id':=352) (by decide) (B9z _ _ _ _ ?_ ?_ ?_ ?_ ?_) (by (simp (disch:=omega) only [push_cast,seval,hlt])<;>rfl) (by (simp (disch:=omega) only [push_cast,seval,hlt])<;>rfl) ?_;(iterate 5 (exact sd));rintro _ _ ⟨x,hx,hx0,rfl,rfl⟩))|((with_reducible refine callD_ids (f:=13) (args:=[Operand.tmp 33,Operand.tmp 34]) [0,544] true ?_);simp (disch:=omega) only [push_cast,seval,hlt];(refine Cdz (id:=0) (id':=544) (by decide) (B9z _ _ _ _ ?_ ?_ ?_ ?_ ?_) (by (simp (disch:=omega) only [push_cast,seval,hlt])<;>rfl) (by (simp (disch:=omega) only [push_cast,seval,hlt])<;>rfl) ?_;(iterate 5 (exact sd));rintro _ _ ⟨x,hx,hx0,rfl,rfl⟩))|((with_reducible refine callD_ids (f:=13) [0] true ?_);simp (disch:=omega) only [push_cast,seval,hlt];(refine Bgz (id:=0) (Cgz _ _ _ _ ?_ ?_ ?_ ?_ ?_) (by (simp (disch:=omega) only [push_cast,seval,hlt])<;>rfl) ?_;(iterate 5 (exact sd));rintro _ _ ⟨x,hx,hx0,rfl,rfl⟩))|((with_reducible refine qcallI_of (f:=13) [0] true ?_);simp (disch:=omega) only [push_cast,seval,hlt];(refine A8z (id:=0) (Cgz _ _ _ _ ?_ ?_ ?_ ?_ ?_) (by (simp (disch:=omega) only [push_cast,seval,hlt])<;>rfl) (by decide) (by simp only [B6z,C4z];exact ⟨_,_,_,List.mem_cons_self,by omega,rfl,rfl⟩) ?_;(iterate 5 (exact sd));rintro _ _ ⟨x,hx,hx0,rfl,rfl⟩)))<;>(try simp (disch:=omega) only [push_cast,seval,hlt]))
 | (refine Aiz ⟨.inr rfl,[400],[],_,by decide,rfl,?_⟩;(try simp (disch:=omega) only [push_cast,seval,↓Ajz,↓Ahz,↓List.map_cons,↓List.map_nil,hlt]))))
        refine ⟨(xs ++ [x],n - 1,q + 1),⟨⟨by simp;omega,by simp only;omega⟩,by simp only;omega,by simp only;omega⟩,by simp only;omega,?_⟩
        rw [if_neg (by simp)]
        (refine Sub.of_lists ?_ ?_ ?_ ?_ ?_<;>simp [Vw.mkS,Vw.lk,Vw.hk,AV.inn,innL,Apz,Aoz,Asz,-List.map_set,-List.getD_eq_getElem?_getD])
      · (repeat' (first
 | (first|refine Akz ?_|refine Aez ?_)
 | ((first|refine Alz ?_|refine Brz (mid:=l12r4a) (post:=l12r4b) [0] mixed (by decide) ?_|refine Brz (mid:=l12r8a) (post:=l12r8b) [0] mixed (by decide) ?_|refine Adz ?_|refine Afz ?_|refine Agz ?_);simp (disch:=omega) only [push_cast,seval,l12r0,l12r1,l12r2,l12r3,l12r4a,l12r4b,l12r4,l12r5,l12r6,l12r7,l12r8a,l12r8b,l12r8,l12r9,l12r10,l12r11,hlt,A9z])
 | ((first|refine Aaz ?_ ?_|refine Acz ?_ ?_|refine Abz ?_ ?_)<;>intro h<;>(try simp only [h])<;>(try simp only [bitvec_to_nat] at h)<;>(try simp only [h])<;>(first|(exfalso;omega)|(exfalso;simp_all;done)|(simp (disch:=omega) only [push_cast,seval,hlt,A9z])|skip))
 | ((first|((with_reducible refine callD_ids (f:=14) [0] true ?_);simp (disch:=omega) only [push_cast,seval,hlt,A9z];(refine Bgz (id:=0) (Bpz _ _ _ ?_ ?_) (by (simp (disch:=omega) only [push_cast,seval,hlt,A9z])<;>rfl) ?_;(iterate 2 (exact sd));rintro _ _ ⟨x,hx0,hx1,rfl,rfl⟩))|((with_reducible refine qcallI_of (f:=14) [0] true ?_);simp (disch:=omega) only [push_cast,seval,hlt,A9z];(refine A8z (id:=0) (Bpz _ _ _ ?_ ?_) (by (simp (disch:=omega) only [push_cast,seval,hlt,A9z])<;>rfl) (by decide) ⟨_,_,0,by omega,Or.inr (Or.inr rfl),rfl,rfl⟩ ?_;(iterate 2 (exact sd));rintro _ _ ⟨x,hx0,hx1,rfl,rfl⟩))|((with_reducible refine callD_ids (f:=13) (args:=[Operand.tmp 12,Operand.tmp 13]) [0,208] true ?_);simp (disch:=omega) only [push_cast,seval,hlt,A9z];(refine Cdz (id:=0) (id':=208) (by decide) (B9z _ _ _ _ ?_ ?_ ?_ ?_ ?_) (by (simp (disch:=omega) only [push_cast,seval,hlt,A9z])<;>rfl) (by (simp (disch:=omega) only [push_cast,seval,hlt,A9z])<;>rfl) ?_;(iterate 5 (exact sd));rintro _ _ ⟨x,hx,hx0,rfl,rfl⟩))|((with_reducible refine callD_ids (f:=13) (args:=[Operand.tmp 21,Operand.tmp 22]) [0,352] true ?_);simp (disch:=omega) only [push_cast,seval,hlt,A9z];(refine Cdz (id:=0) (id':=352) (by decide) (B9z _ _ _ _ ?_ ?_ ?_ ?_ ?_) (by (simp (disch:=omega) only [push_cast,seval,hlt,A9z])<;>rfl) (by (simp (disch:=omega) only [push_cast,seval,hlt,A9z])<;>rfl) ?_;(iterate 5 (exact sd));rintro _ _ ⟨x,hx,hx0,rfl,rfl⟩))|((with_reducible refine callD_ids (f:=13) (args:=[Operand.tmp 33,Operand.tmp 34]) [0,544] true ?_);simp (disch:=omega) only [push_cast,seval,hlt,A9z];(refine Cdz (id:=0) (id':=544) (by decide) (B9z _ _ _ _ ?_ ?_ ?_ ?_ ?_) (by (simp (disch:=omega) only [push_cast,seval,hlt,A9z])<;>rfl) (by (simp (disch:=omega) only [push_cast,seval,hlt,A9z])<;>rfl) ?_;(iterate 5 (exact sd));rintro _ _ ⟨x,hx,hx0,rfl,rfl⟩))|((with_reducible refine callD_ids (f:=13) [0] true ?_);simp (disch:=omega) only [push_cast,seval,hlt,A9z];(refine Bgz (id:=0) (Cgz _ _ _ _ ?_ ?_ ?_ ?_ ?_) (by (simp (disch:=omega) only [push_cast,seval,hlt,A9z])<;>rfl) ?_;(iterate 5 (exact sd));rintro _ _ ⟨x,hx,hx0,rfl,rfl⟩))|((with_reducible refine qcallI_of (f:=13) [0] true ?_);simp (disch:=omega) only [push_cast,seval,hlt,A9z];(refine A8z (id:=0) (Cgz _ _ _ _ ?_ ?_ ?_ ?_ ?_) (by (simp (disch:=omega) only [push_cast,seval,hlt,A9z])<;>rfl) (by decide) (by simp only [B6z,C4z];exact ⟨_,_,_,List.mem_cons_self,by omega,rfl,rfl⟩) ?_;(iterate 5 (exact sd));rintro _ _ ⟨x,hx,hx0,rfl,rfl⟩)))<;>(try simp (disch:=omega) only [push_cast,seval,hlt,A9z]))))
        all_goals first
          | ((refine Aiz ⟨.inr rfl,[400],[],_,by decide,rfl,?_⟩;(try simp (disch:=omega) only [push_cast,seval,↓Ajz,↓Ahz,↓List.map_cons,↓List.map_nil,A9z]));first
              | exact ⟨xs,big,al,_,by omega,by omega,rfl,rfl⟩
              | (refine ⟨xs.set 0 x,big,al,_,by rw [List.length_set];omega,by omega,?_,rfl⟩;rw [List.length_set];done))
          | ((refine Aiz ⟨.inr rfl,[16000],[(16000,1)],_,by decide,rfl,?_⟩;(try simp (disch:=omega) only [push_cast,seval,↓Ajz,↓Ahz,↓List.map_cons,↓List.map_nil,A9z]));exact ⟨[],big,al,_,by simp,by omega,rfl,rfl⟩)

end Go.Proofs.YtgiaepecaokcfaaDoor
set_option linter.unusedSimpArgs false
set_option linter.unusedVariables false
set_option maxRecDepth 4000
set_option maxHeartbeats 4000000
namespace Go.Proofs.YtgiaepecaokcfaaDoor
open VwM Vw Go

theorem Ffz {al big:Bool} {s:List Int} {k:Nat} {many:Int} (h:fvB al big s k many=true):vF s=true ∧ k < s.length ∧ 1 ≤ many ∧ vV (fvb al big s k) (fvh s k many) (fvt al big s)=true:=by
  unfold fvB at h
  simp only [Bool.and_eq_true,decide_eq_true_eq] at h
  exact ⟨h.1.1.1,by omega,h.1.2,h.2⟩
/-- A cell of a view of a field: the item,and the byte in the field. -/
theorem Hfz {al big:Bool} {s:List Int} {k:Nat} {many:Int} (hz:1 ≤ s.getD k 0) {f:Nat → Int} (hf:isIx (fvh s k many) f):∃ j:Int,(0 ≤ f 0 ∧ f 0 < many) ∧ (0 ≤ j ∧ j < s.getD k 0) ∧ (j=if big=true then s.getD k 0 - 1 - f 1 else f 1) ∧ fvb al big s k + dot f (fvt al big s) (fvh s k many).length=f 0 * fN al s + (fP al s k + j):=by
  have h0:=hf 0 (by simp [fvh])
  have h1:=hf 1 (by simp [fvh])
  have e0:(fvh s k many).getD 0 0=many:=rfl
  have e1:(fvh s k many).getD 1 0=s.getD k 0:=by simp [fvh]
  rw [e0] at h0
  rw [e1] at h1
  have hl:(fvh s k many).length=2:=rfl
  have hd:dot f (fvt al big s) 2=f 0 * fN al s + f 1 * (if big=true then -1 else 1):=by
    cases big<;>simp [dot,fvt]
  rw [hl,hd]
  cases big with
  | false =>
    refine ⟨f 1,h0,h1,rfl,?_⟩
    simp only [fvb,Int.toNat_natCast,Bool.false_eq_true,if_false]
    omega
  | true =>
    refine ⟨s.getD k 0 - 1 - f 1,h0,by omega,rfl,?_⟩
    simp only [fvb,Int.toNat_natCast,if_true]
    omega
theorem item_eq {N a b r t:Int} (hr:0 ≤ r ∧ r < N) (ht:0 ≤ t ∧ t < N) (h:a * N + r=b * N + t):a=b ∧ r=t:=by
  have h1:(a * N + r) % N=r:=by rw [Int.add_comm,Int.add_mul_emod_self_right,Int.emod_eq_of_lt hr.1 hr.2]
  have h2:(b * N + t) % N=t:=by rw [Int.add_comm,Int.add_mul_emod_self_right,Int.emod_eq_of_lt ht.1 ht.2]
  rw [h,h2] at h1
  refine ⟨?_,h1.symm⟩
  have h3:a * N=b * N:=by omega
  exact Int.eq_of_mul_eq_mul_right (by omega) h3
/-- Different fields have different bytes. -/
theorem fv_sep {al:Bool} {s:List Int} (hv:vF s=true) {k k':Nat} (hk:k < s.length) (hk':k' < s.length) (hne:k ≠ k') {j j':Int} (hj:0 ≤ j ∧ j < s.getD k 0) (hj':0 ≤ j' ∧ j' < s.getD k' 0):fP al s k + j ≠ fP al s k' + j':=by
  have h:=(C3z.1 hv).1
  have b1:=Ccz (al:=al) h k hk
  have b2:=Ccz (al:=al) h k' hk'
  rcases Nat.lt_or_gt_of_ne hne with hlt|hlt
  · have:=Hiz (al:=al) h (k + 1) k' hlt (by omega)
    omega
  · have:=Hiz (al:=al) h (k' + 1) k hlt (by omega)
    omega
theorem Hez {al:Bool} {s:List Int} (hv:vF s=true) {k:Nat} (hk:k < s.length) {j:Int} (hj:0 ≤ j ∧ j < s.getD k 0):0 ≤ fP al s k + j ∧ fP al s k + j < fN al s:=by
  obtain ⟨r1,r2,r3,r4,r5,r6,r7,r8⟩:=D1z (al:=al) hv hk
  omega
theorem fv_apart {al big:Bool} {s:List Int} {k k':Nat} {many:Int} (h:fvB al big s k many=true) (h':fvB al big s k' many=true) (hne:k' ≠ k):doB (fvb al big s k) (fvh s k many) (fvt al big s) (fvb al big s k') (fvh s k' many) (fvt al big s)=false:=by
  obtain ⟨hv,hk,_,h4⟩:=Ffz h
  obtain ⟨_,hk',_,h4'⟩:=Ffz h'
  have z:=(D1z (al:=al) hv hk).2.2.1
  have z':=(D1z (al:=al) hv hk').2.2.1
  have he:bothL (offs (fvb al big s k) (fvh s k many) (fvt al big s)) (offs (fvb al big s k') (fvh s k' many) (fvt al big s))=[]:=by
    refine List.eq_nil_iff_forall_not_mem.2 fun x hx=>?_
    obtain ⟨_,hx1,hx2⟩:=Ejz.1 hx
    obtain ⟨f,hf,e1⟩:=(Bsz (Boz (vV_spec.1 h4).1).1).1 hx1
    obtain ⟨g,hg,e2⟩:=(Bsz (Boz (vV_spec.1 h4').1).1).1 hx2
    obtain ⟨j,_,j1,_,j2⟩:=Hfz (al:=al) (big:=big) z hf
    obtain ⟨j',_,j1',_,j2'⟩:=Hfz (al:=al) (big:=big) z' hg
    have:=(item_eq (Hez hv hk j1) (Hez hv hk' j1') (by rw [← j2,← j2',e1,e2])).2
    exact fv_sep hv hk hk' (Ne.symm hne) j1 j1' this
  unfold doB
  rw [he]
  cases ovB (fvb al big s k) (fvh s k many) (fvt al big s) (fvb al big s k') (fvh s k' many) (fvt al big s)<;>simp [MVL]
theorem fv_one {al big:Bool} {s:List Int} {k:Nat} {many:Int} (h:fvB al big s k many=true):oneB (fvb al big s k) (fvh s k many) (fvt al big s)=true:=by
  obtain ⟨hv,hk,_,h4⟩:=Ffz h
  have z:=(D1z (al:=al) hv hk).2.2.1
  have hs:=(vV_spec.1 h4).1
  have hg:=(Boz hs).1
  unfold oneB
  rw [h4,Bool.true_and,decide_eq_true_eq]
  unfold offs
  rw [List.nodup_iff_pairwise_ne,List.pairwise_map]
  refine (List.nodup_range (n:=(pr (fvh s k many)).toNat)).imp_of_mem fun {a c} ha hc hne e=>hne ?_
  have ha':=List.mem_range.1 ha
  have hc':=List.mem_range.1 hc
  have i1:=Eqz hg (Int.natCast_nonneg a) (by omega)
  have i2:=Eqz hg (Int.natCast_nonneg c) (by omega)
  obtain ⟨j,_,j1,j3,j2⟩:=Hfz (al:=al) (big:=big) z i1
  obtain ⟨j',_,j1',j3',j2'⟩:=Hfz (al:=al) (big:=big) z i2
  unfold cellK at e
  obtain ⟨q1,q2⟩:=item_eq (Hez hv hk j1) (Hez hv hk j1') (by rw [← j2,← j2',e])
  have q3:dig (fvh s k many) a 1=dig (fvh s k many) c 1:=by
    cases big with
    | false=>simp only [Bool.false_eq_true,if_false] at j3 j3';omega
    | true=>simp only [if_true] at j3 j3';omega
  have hu:unr (fvh s k many) a=unr (fvh s k many) c:=by
    unfold unr
    show [dig (fvh s k many) a 0,dig (fvh s k many) a 1]=[dig (fvh s k many) c 0,dig (fvh s k many) c 1]
    rw [q1,q3]
  have r1:=rank_unr hs (Int.natCast_nonneg a) (by omega)
  have r2:=rank_unr hs (Int.natCast_nonneg c) (by omega)
  rw [hu,r2] at r1
  omega

end Go.Proofs.YtgiaepecaokcfaaDoor
set_option linter.unusedSimpArgs false
set_option linter.unusedVariables false
set_option maxRecDepth 4000
set_option maxHeartbeats 4000000
namespace Go.Proofs.YtgiaepecaokcfaaDoor
open VwM Vw Go

set_option maxHeartbeats 8000000 in
theorem drawFVB_ok (bs:List Int) (n:Nat) (hn:bs.length=n) (hb:n ≤ 1099511627776 ∧ ∀ x ∈ bs,0 ≤ x ∧ x ≤ 255):BCall Tryd.prog 4 [.rows false (UL bs) n] [] (fun r H'=>∃ (s:List Int) (big al:Bool) (k many:Int),(s.length ≤ 5 ∧ -1000 ≤ many ∧ many ≤ 1000) ∧ r=.tup [.agg [.own 0 s.length 1,.bool big,.bool al],.int .i64 k,.int .i64 many] ∧ H'=[IL s]):=by
  refine A3z (pins:=[]) (pin:=0) l4_eq rfl rfl rfl ?_
  (repeat' (first
 | (first|refine Akz ?_|refine Aez ?_)
 | ((first|refine Alz ?_|refine Brz (mid:=l4r3a) (post:=l4r3b) [128] mixed (by decide) ?_|refine Adz ?_|refine Afz ?_|refine Agz ?_);simp (disch:=omega) only [push_cast,seval,l4r0,l4r1,l4r2,l4r3a,l4r3b,l4r3])
 | ((first|refine Aaz ?_ ?_|refine Acz ?_ ?_|refine Abz ?_ ?_)<;>intro h<;>(try simp only [h])<;>(try simp only [bitvec_to_nat] at h)<;>(try simp only [h])<;>(first|(exfalso;omega)|(exfalso;simp_all;done)|(simp (disch:=omega) only [push_cast,seval])|skip))
 | ((first|((with_reducible refine Anz (f:=11) true ?_);simp (disch:=omega) only [push_cast,seval];(refine call0D (newReader_ok _ _ ?_ ?_) ?_;(iterate 2 (exact sd));rintro _ _ ⟨bs0,hbs0,rfl,rfl⟩))|((with_reducible refine callD_ids (f:=12) [128] true ?_);simp (disch:=omega) only [push_cast,seval];(refine Bgz (id:=128) (someFmt_ok _ _ ?_ ?_) (by (simp (disch:=omega) only [push_cast,seval])<;>rfl) ?_;(iterate 2 (exact sd));rintro _ _ ⟨s,big,al,q,hs5,hq,rfl,rfl⟩))|((with_reducible refine callD_ids (f:=14) [128] true ?_);simp (disch:=omega) only [push_cast,seval];(refine Bgz (id:=128) (Bpz _ _ _ ?_ ?_) (by (simp (disch:=omega) only [push_cast,seval])<;>rfl) ?_;(iterate 2 (exact sd));rintro _ _ ⟨x,hx0,hx1,rfl,rfl⟩))|((with_reducible refine qcallI_of (f:=14) [128] true ?_);simp (disch:=omega) only [push_cast,seval];(refine A8z (id:=128) (Bpz _ _ _ ?_ ?_) (by (simp (disch:=omega) only [push_cast,seval])<;>rfl) (by decide) ⟨_,_,0,by omega,Or.inr (Or.inr rfl),rfl,rfl⟩ ?_;(iterate 2 (exact sd));rintro _ _ ⟨x,hx0,hx1,rfl,rfl⟩))|((with_reducible refine callD_ids (f:=13) (args:=[Operand.tmp 12,Operand.tmp 19]) [128,304] true ?_);simp (disch:=omega) only [push_cast,seval];(refine Cdz (id:=128) (id':=304) (by decide) (B9z _ _ _ _ ?_ ?_ ?_ ?_ ?_) (by (simp (disch:=omega) only [push_cast,seval])<;>rfl) (by (simp (disch:=omega) only [push_cast,seval])<;>rfl) ?_;(iterate 5 (exact sd));rintro _ _ ⟨x,hx,hx0,rfl,rfl⟩))|((with_reducible refine callD_ids (f:=13) (args:=[Operand.tmp 21,Operand.tmp 22]) [128,352] true ?_);simp (disch:=omega) only [push_cast,seval];(refine Cdz (id:=128) (id':=352) (by decide) (B9z _ _ _ _ ?_ ?_ ?_ ?_ ?_) (by (simp (disch:=omega) only [push_cast,seval])<;>rfl) (by (simp (disch:=omega) only [push_cast,seval])<;>rfl) ?_;(iterate 5 (exact sd));rintro _ _ ⟨x,hx,hx0,rfl,rfl⟩))|((with_reducible refine callD_ids (f:=13) [128] true ?_);simp (disch:=omega) only [push_cast,seval];(refine Bgz (id:=128) (Cgz _ _ _ _ ?_ ?_ ?_ ?_ ?_) (by (simp (disch:=omega) only [push_cast,seval])<;>rfl) ?_;(iterate 5 (exact sd));rintro _ _ ⟨x,hx,hx0,rfl,rfl⟩))|((with_reducible refine qcallI_of (f:=13) [128] true ?_);simp (disch:=omega) only [push_cast,seval];(refine A8z (id:=128) (Cgz _ _ _ _ ?_ ?_ ?_ ?_ ?_) (by (simp (disch:=omega) only [push_cast,seval])<;>rfl) (by decide) (by simp only [B6z,C4z];exact ⟨_,_,_,List.mem_cons_self,by omega,rfl,rfl⟩) ?_;(iterate 5 (exact sd));rintro _ _ ⟨x,hx,hx0,rfl,rfl⟩)))<;>(try simp (disch:=omega) only [push_cast,seval]))))
  all_goals ((refine Aiz ⟨.inr rfl,[160],[],_,by decide,rfl,?_⟩;(try simp (disch:=omega) only [push_cast,seval,↓Ajz,↓Ahz,↓List.map_cons,↓List.map_nil]));exact ⟨s,big,al,_,_,⟨hs5,by assumption⟩,rfl,rfl⟩)
theorem Bxz (bs:List Int) (n:Nat) (hn:bs.length=n) (hb:n ≤ 1099511627776 ∧ ∀ x ∈ bs,0 ≤ x ∧ x ≤ 255):PCall Tryd.prog 4 [.rows false (UL bs) n] (fun r=>∃ (s:List Int) (big al:Bool) (k many:Int),(s.length ≤ 5 ∧ -1000 ≤ many ∧ many ≤ 1000) ∧ r=.tup [.agg [.rows true (IL s) s.length,.bool big,.bool al],.int .i64 k,.int .i64 many]):=by
  refine (BCall.plain (drawFVB_ok bs n hn hb)).mono ?_
  rintro r ⟨r0,H',⟨s,big,al,k,many,h1,rfl,rfl⟩,rfl⟩
  refine ⟨s,big,al,k,many,h1,?_⟩
  simp [AV.ren,nthH,List.map_map,Function.comp_def]


theorem fvB_k0 {al big:Bool} {s:List Int} {k many:Int} (h:fvB al big s k many=true):0 ≤ k:=by
  unfold fvB at h
  simp only [Bool.and_eq_true,decide_eq_true_eq] at h
  exact h.1.1.2.1


set_option maxHeartbeats 32000000 in
theorem fFV_ok (bs:List Int) (hl:bs.length ≤ 9223372036854775807) (hb:∀ x ∈ bs,0 ≤ x ∧ x ≤ 255):PCall Tryd.prog 3 [.rows false (UL bs) bs.length] (fun r=>r=.bool true):=by
  refine Ayz l3_eq rfl ?_
  by_cases h:bs.length ≤ 1048576
  · have q:bs.length ≤ 1099511627776 ∧ ∀ x ∈ bs,0 ≤ x ∧ x ≤ 255:=⟨by omega,hb⟩
    (repeat' (first
 | (refine awp_joinL (c1:=.reg l3r3) (fun x:List Int × Bool × Bool × Int × Int=>mkS [(3,.ref 48 3 0),(4,.int .i64 x.2.2.2.1),(5,.int .i64 x.2.2.2.2)] [(48,[.rows true (IL x.1) x.1.length,.bool x.2.1,.bool x.2.2.1])]) (fun x=>x.1.length ≤ 5 ∧ -1000 ≤ x.2.2.2.2 ∧ x.2.2.2.2 ≤ 1000) ?_ ?_)
 | (first|refine Akz ?_|refine Aez ?_)
 | ((first|refine Alz ?_|refine Atz (mid:=l3r14a) (post:=l3r14b) mixed (by decide) ?_|refine Adz ?_|refine Afz ?_|refine Agz ?_);simp (disch:=omega) only [push_cast,seval,l3r0,l3r1,l3r2,l3r3,l3r4,l3r5,l3r6,l3r7,l3r8,l3r9,l3r10,l3r11,l3r12,l3r13,l3r14a,l3r14b,l3r14])
 | ((first|refine Aaz ?_ ?_|refine Acz ?_ ?_|refine Abz ?_ ?_)<;>intro h<;>(try simp only [h])<;>(try simp only [bitvec_to_nat] at h)<;>(try simp only [h])<;>(first|(exfalso;omega)|(exfalso;simp_all;done)|(simp (disch:=omega) only [push_cast,seval])|skip))
 | ((first|refine Anz false ?_|refine Amz false ?_);simp (disch:=omega) only [push_cast,seval])
 | ((first|(refine call0D (BCall.ofP (Bxz _ _ ?_ ?_)) ?_;(iterate 2 (exact sd));rintro _ _ ⟨⟨s,big,al,k,many,hs5,rfl⟩,rfl⟩)|((first|refine call0D (iFV_ok _ _ _ _ _ _ ?_ ?_) ?_|refine qcall0D (iFV_ok _ _ _ _ _ _ ?_ ?_) ⟨_,_,rfl,rfl⟩ ?_);(iterate 2 (exact sd));rintro _ _ ⟨rfl,rfl⟩)|((first|refine call0D (sFV_ok _ _ _ _ _ _ ?_ ?_) ?_|refine qcall0D (sFV_ok _ _ _ _ _ _ ?_ ?_) ⟨_,_,rfl,rfl⟩ ?_);(iterate 2 (exact sd));rintro _ _ ⟨rfl,rfl⟩)|((first|refine call0D (BCall.ofP (equalViewL_ok _ _ _ _ _ _ _ _ _ _ ?_ ?_ ?_ ?_ ?_)) ?_|refine qcall0D (BCall.ofP (equalViewL_ok _ _ _ _ _ _ _ _ _ _ ?_ ?_ ?_ ?_ ?_)) ⟨_,_,rfl,rfl⟩ ?_);(iterate 5 (exact sd));rintro _ _ ⟨rfl,rfl⟩)|((first|refine call0D (BCall.ofP (iDo_ok _ _ _ _ _ _ _ _ _ _ ?_ ?_ ?_ ?_ ?_)) ?_|refine qcall0D (BCall.ofP (iDo_ok _ _ _ _ _ _ _ _ _ _ ?_ ?_ ?_ ?_ ?_)) ⟨_,_,rfl,rfl⟩ ?_);(iterate 5 (exact sd));rintro _ _ ⟨rfl,rfl⟩)|((first|refine call0D (BCall.ofP (iIsOneToOne_ok _ _ _ _ _ ?_ ?_ ?_)) ?_|refine qcall0D (BCall.ofP (iIsOneToOne_ok _ _ _ _ _ ?_ ?_ ?_)) ⟨_,_,rfl,rfl⟩ ?_);(iterate 3 (exact sd));rintro _ _ ⟨rfl,rfl⟩)|((first|refine call0D (BCall.ofP (iCountOf_ok _ _ ?_ ?_)) ?_|refine qcall0D (BCall.ofP (iCountOf_ok _ _ ?_ ?_)) ⟨_,_,rfl,rfl⟩ ?_);(iterate 2 (exact sd));rintro _ _ ⟨rfl,rfl⟩))<;>(try simp (disch:=omega) only [push_cast,seval]))
 | (refine Aiz ⟨.inr rfl,_,rfl,?_⟩;(try simp (disch:=omega) only [push_cast,seval]))))
    · exact ⟨(s,big,al,k,many),hs5,by (refine Sub.of_lists ?_ ?_ ?_ ?_ ?_<;>simp [Vw.mkS,Vw.lk,Vw.hk,AV.inn,innL,Apz,Aoz,Asz,-List.map_set,-List.getD_eq_getElem?_getD])⟩
    · refine ⟨?_⟩
      rintro ⟨s,big,al,k,many⟩ hs5
      try simp only at hs5 ⊢
      cases hV:fvB al big s k many with
 | false =>
        have hA':(MVL false (fvh s k many)).length ≤ 2:=by simp [MVL]
        have hC':(MVL false (fvt al big s)).length ≤ 2:=by simp [MVL]
        generalize hB:MVB false (fvb al big s k)=B at *
        generalize hA:MVL false (fvh s k many)=A at *
        generalize hC:MVL false (fvt al big s)=C at *
        have q1:(A.length ≤ 1099511627776 ∧ C.length ≤ 1099511627776) ∧ A.length ≤ 1099511627776 ∧ C.length ≤ 1099511627776:=by omega
        (repeat' (first
 | (first|refine Akz ?_|refine Aez ?_)
 | ((first|refine Alz ?_|refine Atz (mid:=l3r14a) (post:=l3r14b) mixed (by decide) ?_|refine Adz ?_|refine Afz ?_|refine Agz ?_);simp (disch:=omega) only [push_cast,seval,l3r0,l3r1,l3r2,l3r3,l3r4,l3r5,l3r6,l3r7,l3r8,l3r9,l3r10,l3r11,l3r12,l3r13,l3r14a,l3r14b,l3r14,hV,hB,hA,hC,decide_true,Bool.and_self])
 | ((first|refine Aaz ?_ ?_|refine Acz ?_ ?_|refine Abz ?_ ?_)<;>intro h<;>(try simp only [h])<;>(try simp only [bitvec_to_nat] at h)<;>(try simp only [h])<;>(first|(exfalso;omega)|(exfalso;simp_all;done)|(simp (disch:=omega) only [push_cast,seval,hV,hB,hA,hC,decide_true,Bool.and_self])|skip))
 | ((first|refine Anz false ?_|refine Amz false ?_);simp (disch:=omega) only [push_cast,seval,hV,hB,hA,hC,decide_true,Bool.and_self])
 | ((first|(refine call0D (BCall.ofP (Bxz _ _ ?_ ?_)) ?_;(iterate 2 (exact sd));rintro _ _ ⟨⟨s,big,al,k,many,hs5,rfl⟩,rfl⟩)|((first|refine call0D (iFV_ok _ _ _ _ _ _ ?_ ?_) ?_|refine qcall0D (iFV_ok _ _ _ _ _ _ ?_ ?_) ⟨_,_,rfl,rfl⟩ ?_);(iterate 2 (exact sd));rintro _ _ ⟨rfl,rfl⟩)|((first|refine call0D (sFV_ok _ _ _ _ _ _ ?_ ?_) ?_|refine qcall0D (sFV_ok _ _ _ _ _ _ ?_ ?_) ⟨_,_,rfl,rfl⟩ ?_);(iterate 2 (exact sd));rintro _ _ ⟨rfl,rfl⟩)|((first|refine call0D (BCall.ofP (equalViewL_ok _ _ _ _ _ _ _ _ _ _ ?_ ?_ ?_ ?_ ?_)) ?_|refine qcall0D (BCall.ofP (equalViewL_ok _ _ _ _ _ _ _ _ _ _ ?_ ?_ ?_ ?_ ?_)) ⟨_,_,rfl,rfl⟩ ?_);(iterate 5 (exact sd));rintro _ _ ⟨rfl,rfl⟩)|((first|refine call0D (BCall.ofP (iDo_ok _ _ _ _ _ _ _ _ _ _ ?_ ?_ ?_ ?_ ?_)) ?_|refine qcall0D (BCall.ofP (iDo_ok _ _ _ _ _ _ _ _ _ _ ?_ ?_ ?_ ?_ ?_)) ⟨_,_,rfl,rfl⟩ ?_);(iterate 5 (exact sd));rintro _ _ ⟨rfl,rfl⟩)|((first|refine call0D (BCall.ofP (iIsOneToOne_ok _ _ _ _ _ ?_ ?_ ?_)) ?_|refine qcall0D (BCall.ofP (iIsOneToOne_ok _ _ _ _ _ ?_ ?_ ?_)) ⟨_,_,rfl,rfl⟩ ?_);(iterate 3 (exact sd));rintro _ _ ⟨rfl,rfl⟩)|((first|refine call0D (BCall.ofP (iCountOf_ok _ _ ?_ ?_)) ?_|refine qcall0D (BCall.ofP (iCountOf_ok _ _ ?_ ?_)) ⟨_,_,rfl,rfl⟩ ?_);(iterate 2 (exact sd));rintro _ _ ⟨rfl,rfl⟩))<;>(try simp (disch:=omega) only [push_cast,seval,hV,hB,hA,hC,decide_true,Bool.and_self]))
 | (refine Aiz ⟨.inr rfl,_,rfl,?_⟩;(try simp (disch:=omega) only [push_cast,seval,hV,hB,hA,hC,decide_true,Bool.and_self]))))
        all_goals (try simp)
 | true =>
        obtain ⟨c,rfl⟩:∃ c:Nat,k=c:=⟨k.toNat,by have:=fvB_k0 hV;omega⟩
        obtain ⟨hv,hk,hm,h4⟩:=Ffz hV
        have hone:=fv_one hV
        have hap:=fun (i:Nat) (hne:i ≠ c) (h':fvB al big s i many=true)=>fv_apart hV h' hne
        have hsh:=(vV_spec.1 h4).1
        have hz:=D1z (al:=al) hv hk
        have hpr:pr (fvh s c many)=many * s.getD c 0:=by simp [fvh,pr]
        have hAl:(fvh s c many).length=2:=rfl
        have hCl:(fvt al big s).length=2:=rfl
        have hzb:1 ≤ s.getD c 0 ∧ s.getD c 0 ≤ 4:=⟨hz.2.2.1,hz.2.2.2.1⟩
        have hmb:=Int.mul_le_mul hs5.2.2 hzb.2 (by omega) (by omega:(0:Int) ≤ 1000)
        have hmb0:=Int.mul_nonneg (by omega:0 ≤ many) (by omega:0 ≤ s.getD c 0)
        clear hz h4
        generalize hA:fvh s (c:Int) many=A at *
        generalize hC:fvt al big s=C at *
        generalize hB:fvb al big s (c:Int)=B at *
        generalize hZ:s.getD c 0=Z at *
        have q1:(A.length ≤ 1099511627776 ∧ C.length ≤ 1099511627776) ∧ A.length ≤ 1099511627776 ∧ C.length ≤ 1099511627776:=by omega
        have q1':(2 ≤ 1099511627776 ∧ 2 ≤ 1099511627776) ∧ 2 ≤ 1099511627776 ∧ 2 ≤ 1099511627776:=by omega
        (repeat' (first
 | (first|refine Akz ?_|refine Aez ?_)
 | ((first|refine Alz ?_|refine Atz (mid:=l3r14a) (post:=l3r14b) mixed (by decide) ?_|refine Adz ?_|refine Afz ?_|refine Agz ?_);simp (disch:=omega) only [push_cast,seval,l3r0,l3r1,l3r2,l3r3,l3r4,l3r5,l3r6,l3r7,l3r8,l3r9,l3r10,l3r11,l3r12,l3r13,l3r14a,l3r14b,l3r14,hV,hA,hC,hB,hAl,hCl,Bkz,Bjz,decide_true,Bool.and_self])
 | ((first|refine Aaz ?_ ?_|refine Acz ?_ ?_|refine Abz ?_ ?_)<;>intro h<;>(try simp only [h])<;>(try simp only [bitvec_to_nat] at h)<;>(try simp only [h])<;>(first|(exfalso;omega)|(exfalso;simp_all;done)|(simp (disch:=omega) only [push_cast,seval,hV,hA,hC,hB,hAl,hCl,Bkz,Bjz,decide_true,Bool.and_self])|skip))
 | ((first|refine Anz false ?_|refine Amz false ?_);simp (disch:=omega) only [push_cast,seval,hV,hA,hC,hB,hAl,hCl,Bkz,Bjz,decide_true,Bool.and_self])
 | ((first|(refine call0D (BCall.ofP (Bxz _ _ ?_ ?_)) ?_;(iterate 2 (exact sd));rintro _ _ ⟨⟨s,big,al,k,many,hs5,rfl⟩,rfl⟩)|((first|refine call0D (iFV_ok _ _ _ _ _ _ ?_ ?_) ?_|refine qcall0D (iFV_ok _ _ _ _ _ _ ?_ ?_) ⟨_,_,rfl,rfl⟩ ?_);(iterate 2 (exact sd));rintro _ _ ⟨rfl,rfl⟩)|((first|refine call0D (sFV_ok _ _ _ _ _ _ ?_ ?_) ?_|refine qcall0D (sFV_ok _ _ _ _ _ _ ?_ ?_) ⟨_,_,rfl,rfl⟩ ?_);(iterate 2 (exact sd));rintro _ _ ⟨rfl,rfl⟩)|((first|refine call0D (BCall.ofP (equalViewL_ok _ _ _ _ _ _ _ _ _ _ ?_ ?_ ?_ ?_ ?_)) ?_|refine qcall0D (BCall.ofP (equalViewL_ok _ _ _ _ _ _ _ _ _ _ ?_ ?_ ?_ ?_ ?_)) ⟨_,_,rfl,rfl⟩ ?_);(iterate 5 (exact sd));rintro _ _ ⟨rfl,rfl⟩)|((first|refine call0D (BCall.ofP (iDo_ok _ _ _ _ _ _ _ _ _ _ ?_ ?_ ?_ ?_ ?_)) ?_|refine qcall0D (BCall.ofP (iDo_ok _ _ _ _ _ _ _ _ _ _ ?_ ?_ ?_ ?_ ?_)) ⟨_,_,rfl,rfl⟩ ?_);(iterate 5 (exact sd));rintro _ _ ⟨rfl,rfl⟩)|((first|refine call0D (BCall.ofP (iIsOneToOne_ok _ _ _ _ _ ?_ ?_ ?_)) ?_|refine qcall0D (BCall.ofP (iIsOneToOne_ok _ _ _ _ _ ?_ ?_ ?_)) ⟨_,_,rfl,rfl⟩ ?_);(iterate 3 (exact sd));rintro _ _ ⟨rfl,rfl⟩)|((first|refine call0D (BCall.ofP (iCountOf_ok _ _ ?_ ?_)) ?_|refine qcall0D (BCall.ofP (iCountOf_ok _ _ ?_ ?_)) ⟨_,_,rfl,rfl⟩ ?_);(iterate 2 (exact sd));rintro _ _ ⟨rfl,rfl⟩))<;>(try simp (disch:=omega) only [push_cast,seval,hV,hA,hC,hB,hAl,hCl,Bkz,Bjz,decide_true,Bool.and_self]))
 | (refine Aiz ⟨.inr rfl,_,rfl,?_⟩;(try simp (disch:=omega) only [push_cast,seval,hV,hA,hC,hB,hAl,hCl,Bkz,Bjz,decide_true,Bool.and_self]))))
        refine A4z (fun i:Nat=>mkS [(3,.ref 48 3 0),(4,.int .i64 c),(5,.int .i64 many),(6,.ref 96 3 0),(10,.int .i64 i)] [(48,[.rows true (IL s) s.length,.bool big,.bool al]),(96,[.int .i64 B,.own 416 2 1,.own 417 2 1]),(416,IL A),(417,IL C)]) (fun i=>i ≤ s.length) (fun i=>s.length - i) 0 (Nat.zero_le _) ?_ ?_
        · (refine Sub.of_lists ?_ ?_ ?_ ?_ ?_<;>simp [Vw.mkS,Vw.lk,Vw.hk,AV.inn,innL,Apz,Aoz,Asz,-List.map_set,-List.getD_eq_getElem?_getD])
        · intro i hi
          by_cases hlt:i < s.length
          · have hap2:=hap i
            clear hap
            have hAl':(fvh s (i:Int) many).length=2:=rfl
            generalize hA':fvh s (i:Int) many=A' at *
            generalize hB':fvb al big s (i:Int)=B' at *
            cases hV':fvB al big s (i:Int) many with
            | false =>
              by_cases hic:i=c
              · rw [hic,hV] at hV';cases hV'
              · have hic':(i:Int) ≠ c:=by omega
                (repeat' (first
 | (first|refine Akz ?_|refine Aez ?_)
 | ((first|refine Alz ?_|refine Atz (mid:=l3r14a) (post:=l3r14b) mixed (by decide) ?_|refine Adz ?_|refine Afz ?_|refine Agz ?_);simp (disch:=omega) only [push_cast,seval,l3r0,l3r1,l3r2,l3r3,l3r4,l3r5,l3r6,l3r7,l3r8,l3r9,l3r10,l3r11,l3r12,l3r13,l3r14a,l3r14b,l3r14,hV',hA',hB',hC,hAl',hCl,hic',Dfz,Dez,ne_eq,not_false_eq_true,decide_true])
 | ((first|refine Aaz ?_ ?_|refine Acz ?_ ?_|refine Abz ?_ ?_)<;>intro h<;>(try simp only [h])<;>(try simp only [bitvec_to_nat] at h)<;>(try simp only [h])<;>(first|(exfalso;omega)|(exfalso;simp_all;done)|(simp (disch:=omega) only [push_cast,seval,hV',hA',hB',hC,hAl',hCl,hic',Dfz,Dez,ne_eq,not_false_eq_true,decide_true])|skip))
 | ((first|refine Anz false ?_|refine Amz false ?_);simp (disch:=omega) only [push_cast,seval,hV',hA',hB',hC,hAl',hCl,hic',Dfz,Dez,ne_eq,not_false_eq_true,decide_true])
 | ((first|(refine call0D (BCall.ofP (Bxz _ _ ?_ ?_)) ?_;(iterate 2 (exact sd));rintro _ _ ⟨⟨s,big,al,k,many,hs5,rfl⟩,rfl⟩)|((first|refine call0D (iFV_ok _ _ _ _ _ _ ?_ ?_) ?_|refine qcall0D (iFV_ok _ _ _ _ _ _ ?_ ?_) ⟨_,_,rfl,rfl⟩ ?_);(iterate 2 (exact sd));rintro _ _ ⟨rfl,rfl⟩)|((first|refine call0D (sFV_ok _ _ _ _ _ _ ?_ ?_) ?_|refine qcall0D (sFV_ok _ _ _ _ _ _ ?_ ?_) ⟨_,_,rfl,rfl⟩ ?_);(iterate 2 (exact sd));rintro _ _ ⟨rfl,rfl⟩)|((first|refine call0D (BCall.ofP (equalViewL_ok _ _ _ _ _ _ _ _ _ _ ?_ ?_ ?_ ?_ ?_)) ?_|refine qcall0D (BCall.ofP (equalViewL_ok _ _ _ _ _ _ _ _ _ _ ?_ ?_ ?_ ?_ ?_)) ⟨_,_,rfl,rfl⟩ ?_);(iterate 5 (exact sd));rintro _ _ ⟨rfl,rfl⟩)|((first|refine call0D (BCall.ofP (iDo_ok _ _ _ _ _ _ _ _ _ _ ?_ ?_ ?_ ?_ ?_)) ?_|refine qcall0D (BCall.ofP (iDo_ok _ _ _ _ _ _ _ _ _ _ ?_ ?_ ?_ ?_ ?_)) ⟨_,_,rfl,rfl⟩ ?_);(iterate 5 (exact sd));rintro _ _ ⟨rfl,rfl⟩)|((first|refine call0D (BCall.ofP (iIsOneToOne_ok _ _ _ _ _ ?_ ?_ ?_)) ?_|refine qcall0D (BCall.ofP (iIsOneToOne_ok _ _ _ _ _ ?_ ?_ ?_)) ⟨_,_,rfl,rfl⟩ ?_);(iterate 3 (exact sd));rintro _ _ ⟨rfl,rfl⟩)|((first|refine call0D (BCall.ofP (iCountOf_ok _ _ ?_ ?_)) ?_|refine qcall0D (BCall.ofP (iCountOf_ok _ _ ?_ ?_)) ⟨_,_,rfl,rfl⟩ ?_);(iterate 2 (exact sd));rintro _ _ ⟨rfl,rfl⟩))<;>(try simp (disch:=omega) only [push_cast,seval,hV',hA',hB',hC,hAl',hCl,hic',Dfz,Dez,ne_eq,not_false_eq_true,decide_true]))
 | (refine Aiz ⟨.inr rfl,_,rfl,?_⟩; (try simp (disch := omega) only [push_cast,seval,hV',hA',hB',hC,hAl',hCl,hic',Dfz,Dez,ne_eq,not_false_eq_true,decide_true]))))
                refine ⟨i + 1,by omega,by omega,?_⟩
                (refine Sub.of_lists ?_ ?_ ?_ ?_ ?_<;>simp [Vw.mkS,Vw.lk,Vw.hk,AV.inn,innL,Apz,Aoz,Asz,-List.map_set,-List.getD_eq_getElem?_getD])
            | true =>
              by_cases hic:i=c
              · have hic':(i:Int)=c:=by omega
                (repeat' (first
 | (first|refine Akz ?_|refine Aez ?_)
 | ((first|refine Alz ?_|refine Atz (mid:=l3r14a) (post:=l3r14b) mixed (by decide) ?_|refine Adz ?_|refine Afz ?_|refine Agz ?_);simp (disch:=omega) only [push_cast,seval,l3r0,l3r1,l3r2,l3r3,l3r4,l3r5,l3r6,l3r7,l3r8,l3r9,l3r10,l3r11,l3r12,l3r13,l3r14a,l3r14b,l3r14,hV',hA',hB',hC,hAl',hCl,hic',Bkz,Bjz,ne_eq,not_true_eq_false,decide_false,decide_true])
 | ((first|refine Aaz ?_ ?_|refine Acz ?_ ?_|refine Abz ?_ ?_)<;>intro h<;>(try simp only [h])<;>(try simp only [bitvec_to_nat] at h)<;>(try simp only [h])<;>(first|(exfalso;omega)|(exfalso;simp_all;done)|(simp (disch:=omega) only [push_cast,seval,hV',hA',hB',hC,hAl',hCl,hic',Bkz,Bjz,ne_eq,not_true_eq_false,decide_false,decide_true])|skip))
 | ((first|refine Anz false ?_|refine Amz false ?_);simp (disch:=omega) only [push_cast,seval,hV',hA',hB',hC,hAl',hCl,hic',Bkz,Bjz,ne_eq,not_true_eq_false,decide_false,decide_true])
 | ((first|(refine call0D (BCall.ofP (Bxz _ _ ?_ ?_)) ?_;(iterate 2 (exact sd));rintro _ _ ⟨⟨s,big,al,k,many,hs5,rfl⟩,rfl⟩)|((first|refine call0D (iFV_ok _ _ _ _ _ _ ?_ ?_) ?_|refine qcall0D (iFV_ok _ _ _ _ _ _ ?_ ?_) ⟨_,_,rfl,rfl⟩ ?_);(iterate 2 (exact sd));rintro _ _ ⟨rfl,rfl⟩)|((first|refine call0D (sFV_ok _ _ _ _ _ _ ?_ ?_) ?_|refine qcall0D (sFV_ok _ _ _ _ _ _ ?_ ?_) ⟨_,_,rfl,rfl⟩ ?_);(iterate 2 (exact sd));rintro _ _ ⟨rfl,rfl⟩)|((first|refine call0D (BCall.ofP (equalViewL_ok _ _ _ _ _ _ _ _ _ _ ?_ ?_ ?_ ?_ ?_)) ?_|refine qcall0D (BCall.ofP (equalViewL_ok _ _ _ _ _ _ _ _ _ _ ?_ ?_ ?_ ?_ ?_)) ⟨_,_,rfl,rfl⟩ ?_);(iterate 5 (exact sd));rintro _ _ ⟨rfl,rfl⟩)|((first|refine call0D (BCall.ofP (iDo_ok _ _ _ _ _ _ _ _ _ _ ?_ ?_ ?_ ?_ ?_)) ?_|refine qcall0D (BCall.ofP (iDo_ok _ _ _ _ _ _ _ _ _ _ ?_ ?_ ?_ ?_ ?_)) ⟨_,_,rfl,rfl⟩ ?_);(iterate 5 (exact sd));rintro _ _ ⟨rfl,rfl⟩)|((first|refine call0D (BCall.ofP (iIsOneToOne_ok _ _ _ _ _ ?_ ?_ ?_)) ?_|refine qcall0D (BCall.ofP (iIsOneToOne_ok _ _ _ _ _ ?_ ?_ ?_)) ⟨_,_,rfl,rfl⟩ ?_);(iterate 3 (exact sd));rintro _ _ ⟨rfl,rfl⟩)|((first|refine call0D (BCall.ofP (iCountOf_ok _ _ ?_ ?_)) ?_|refine qcall0D (BCall.ofP (iCountOf_ok _ _ ?_ ?_)) ⟨_,_,rfl,rfl⟩ ?_);(iterate 2 (exact sd));rintro _ _ ⟨rfl,rfl⟩))<;>(try simp (disch:=omega) only [push_cast,seval,hV',hA',hB',hC,hAl',hCl,hic',Bkz,Bjz,ne_eq,not_true_eq_false,decide_false,decide_true]))
 | (refine Aiz ⟨.inr rfl,_,rfl,?_⟩; (try simp (disch := omega) only [push_cast,seval,hV',hA',hB',hC,hAl',hCl,hic',Bkz,Bjz,ne_eq,not_true_eq_false,decide_false,decide_true]))))
                refine ⟨i + 1,by omega,by omega,?_⟩
                (refine Sub.of_lists ?_ ?_ ?_ ?_ ?_<;>simp [Vw.mkS,Vw.lk,Vw.hk,AV.inn,innL,Apz,Aoz,Asz,-List.map_set,-List.getD_eq_getElem?_getD,hic'])
              · have hic':(i:Int) ≠ c:=by omega
                have hdo:=hap2 hic hV'
                (repeat' (first
 | (first|refine Akz ?_|refine Aez ?_)
 | ((first|refine Alz ?_|refine Atz (mid:=l3r14a) (post:=l3r14b) mixed (by decide) ?_|refine Adz ?_|refine Afz ?_|refine Agz ?_);simp (disch:=omega) only [push_cast,seval,l3r0,l3r1,l3r2,l3r3,l3r4,l3r5,l3r6,l3r7,l3r8,l3r9,l3r10,l3r11,l3r12,l3r13,l3r14a,l3r14b,l3r14,hV',hA',hB',hC,hAl',hCl,hAl,hic',hdo,Bkz,Bjz,ne_eq,not_false_eq_true,decide_true])
 | ((first|refine Aaz ?_ ?_|refine Acz ?_ ?_|refine Abz ?_ ?_)<;>intro h<;>(try simp only [h])<;>(try simp only [bitvec_to_nat] at h)<;>(try simp only [h])<;>(first|(exfalso;omega)|(exfalso;simp_all;done)|(simp (disch:=omega) only [push_cast,seval,hV',hA',hB',hC,hAl',hCl,hAl,hic',hdo,Bkz,Bjz,ne_eq,not_false_eq_true,decide_true])|skip))
 | ((first|refine Anz false ?_|refine Amz false ?_);simp (disch:=omega) only [push_cast,seval,hV',hA',hB',hC,hAl',hCl,hAl,hic',hdo,Bkz,Bjz,ne_eq,not_false_eq_true,decide_true])
 | ((first|(refine call0D (BCall.ofP (Bxz _ _ ?_ ?_)) ?_;(iterate 2 (exact sd));rintro _ _ ⟨⟨s,big,al,k,many,hs5,rfl⟩,rfl⟩)|((first|refine call0D (iFV_ok _ _ _ _ _ _ ?_ ?_) ?_|refine qcall0D (iFV_ok _ _ _ _ _ _ ?_ ?_) ⟨_,_,rfl,rfl⟩ ?_);(iterate 2 (exact sd));rintro _ _ ⟨rfl,rfl⟩)|((first|refine call0D (sFV_ok _ _ _ _ _ _ ?_ ?_) ?_|refine qcall0D (sFV_ok _ _ _ _ _ _ ?_ ?_) ⟨_,_,rfl,rfl⟩ ?_);(iterate 2 (exact sd));rintro _ _ ⟨rfl,rfl⟩)|((first|refine call0D (BCall.ofP (equalViewL_ok _ _ _ _ _ _ _ _ _ _ ?_ ?_ ?_ ?_ ?_)) ?_|refine qcall0D (BCall.ofP (equalViewL_ok _ _ _ _ _ _ _ _ _ _ ?_ ?_ ?_ ?_ ?_)) ⟨_,_,rfl,rfl⟩ ?_);(iterate 5 (exact sd));rintro _ _ ⟨rfl,rfl⟩)|((first|refine call0D (BCall.ofP (iDo_ok _ _ _ _ _ _ _ _ _ _ ?_ ?_ ?_ ?_ ?_)) ?_|refine qcall0D (BCall.ofP (iDo_ok _ _ _ _ _ _ _ _ _ _ ?_ ?_ ?_ ?_ ?_)) ⟨_,_,rfl,rfl⟩ ?_);(iterate 5 (exact sd));rintro _ _ ⟨rfl,rfl⟩)|((first|refine call0D (BCall.ofP (iIsOneToOne_ok _ _ _ _ _ ?_ ?_ ?_)) ?_|refine qcall0D (BCall.ofP (iIsOneToOne_ok _ _ _ _ _ ?_ ?_ ?_)) ⟨_,_,rfl,rfl⟩ ?_);(iterate 3 (exact sd));rintro _ _ ⟨rfl,rfl⟩)|((first|refine call0D (BCall.ofP (iCountOf_ok _ _ ?_ ?_)) ?_|refine qcall0D (BCall.ofP (iCountOf_ok _ _ ?_ ?_)) ⟨_,_,rfl,rfl⟩ ?_);(iterate 2 (exact sd));rintro _ _ ⟨rfl,rfl⟩))<;>(try simp (disch:=omega) only [push_cast,seval,hV',hA',hB',hC,hAl',hCl,hAl,hic',hdo,Bkz,Bjz,ne_eq,not_false_eq_true,decide_true]))
 | (refine Aiz ⟨.inr rfl,_,rfl,?_⟩; (try simp (disch := omega) only [push_cast,seval,hV',hA',hB',hC,hAl',hCl,hAl,hic',hdo,Bkz,Bjz,ne_eq,not_false_eq_true,decide_true]))))
                refine ⟨i + 1,by omega,by omega,?_⟩
                (refine Sub.of_lists ?_ ?_ ?_ ?_ ?_<;>simp [Vw.mkS,Vw.lk,Vw.hk,AV.inn,innL,Apz,Aoz,Asz,-List.map_set,-List.getD_eq_getElem?_getD])
          · clear hap
            have q9:(A.length=2 ∧ C.length=2):=⟨hAl,hCl⟩
            (repeat' (first
 | (first|refine Akz ?_|refine Aez ?_)
 | ((first|refine Alz ?_|refine Atz (mid:=l3r14a) (post:=l3r14b) mixed (by decide) ?_|refine Adz ?_|refine Afz ?_|refine Agz ?_);simp (disch:=omega) only [push_cast,seval,l3r0,l3r1,l3r2,l3r3,l3r4,l3r5,l3r6,l3r7,l3r8,l3r9,l3r10,l3r11,l3r12,l3r13,l3r14a,l3r14b,l3r14,hone,hsh,hpr,hZ,hAl,hCl,decide_true])
 | ((first|refine Aaz ?_ ?_|refine Acz ?_ ?_|refine Abz ?_ ?_)<;>intro h<;>(try simp only [h])<;>(try simp only [bitvec_to_nat] at h)<;>(try simp only [h])<;>(first|(exfalso;omega)|(exfalso;simp_all;done)|(simp (disch:=omega) only [push_cast,seval,hone,hsh,hpr,hZ,hAl,hCl,decide_true])|skip))
 | ((first|refine Anz false ?_|refine Amz false ?_);simp (disch:=omega) only [push_cast,seval,hone,hsh,hpr,hZ,hAl,hCl,decide_true])
 | ((first|(refine call0D (BCall.ofP (Bxz _ _ ?_ ?_)) ?_;(iterate 2 (exact sd));rintro _ _ ⟨⟨s,big,al,k,many,hs5,rfl⟩,rfl⟩)|((first|refine call0D (iFV_ok _ _ _ _ _ _ ?_ ?_) ?_|refine qcall0D (iFV_ok _ _ _ _ _ _ ?_ ?_) ⟨_,_,rfl,rfl⟩ ?_);(iterate 2 (exact sd));rintro _ _ ⟨rfl,rfl⟩)|((first|refine call0D (sFV_ok _ _ _ _ _ _ ?_ ?_) ?_|refine qcall0D (sFV_ok _ _ _ _ _ _ ?_ ?_) ⟨_,_,rfl,rfl⟩ ?_);(iterate 2 (exact sd));rintro _ _ ⟨rfl,rfl⟩)|((first|refine call0D (BCall.ofP (equalViewL_ok _ _ _ _ _ _ _ _ _ _ ?_ ?_ ?_ ?_ ?_)) ?_|refine qcall0D (BCall.ofP (equalViewL_ok _ _ _ _ _ _ _ _ _ _ ?_ ?_ ?_ ?_ ?_)) ⟨_,_,rfl,rfl⟩ ?_);(iterate 5 (exact sd));rintro _ _ ⟨rfl,rfl⟩)|((first|refine call0D (BCall.ofP (iDo_ok _ _ _ _ _ _ _ _ _ _ ?_ ?_ ?_ ?_ ?_)) ?_|refine qcall0D (BCall.ofP (iDo_ok _ _ _ _ _ _ _ _ _ _ ?_ ?_ ?_ ?_ ?_)) ⟨_,_,rfl,rfl⟩ ?_);(iterate 5 (exact sd));rintro _ _ ⟨rfl,rfl⟩)|((first|refine call0D (BCall.ofP (iIsOneToOne_ok _ _ _ _ _ ?_ ?_ ?_)) ?_|refine qcall0D (BCall.ofP (iIsOneToOne_ok _ _ _ _ _ ?_ ?_ ?_)) ⟨_,_,rfl,rfl⟩ ?_);(iterate 3 (exact sd));rintro _ _ ⟨rfl,rfl⟩)|((first|refine call0D (BCall.ofP (iCountOf_ok _ _ ?_ ?_)) ?_|refine qcall0D (BCall.ofP (iCountOf_ok _ _ ?_ ?_)) ⟨_,_,rfl,rfl⟩ ?_);(iterate 2 (exact sd));rintro _ _ ⟨rfl,rfl⟩))<;>(try simp (disch:=omega) only [push_cast,seval,hone,hsh,hpr,hZ,hAl,hCl,decide_true]))
 | (refine Aiz ⟨.inr rfl,_,rfl,?_⟩; (try simp (disch := omega) only [push_cast,seval,hone,hsh,hpr,hZ,hAl,hCl,decide_true]))))
            all_goals (try simp)
  · (repeat' (first
 | (first|refine Akz ?_|refine Aez ?_)
 | ((first|refine Alz ?_|refine Atz (mid:=l3r14a) (post:=l3r14b) mixed (by decide) ?_|refine Adz ?_|refine Afz ?_|refine Agz ?_);simp (disch:=omega) only [push_cast,seval,l3r0,l3r1,l3r2,l3r3,l3r4,l3r5,l3r6,l3r7,l3r8,l3r9,l3r10,l3r11,l3r12,l3r13,l3r14a,l3r14b,l3r14])
 | ((first|refine Aaz ?_ ?_|refine Acz ?_ ?_|refine Abz ?_ ?_)<;>intro h<;>(try simp only [h])<;>(try simp only [bitvec_to_nat] at h)<;>(try simp only [h])<;>(first|(exfalso;omega)|(exfalso;simp_all;done)|(simp (disch:=omega) only [push_cast,seval])|skip))
 | ((first|refine Anz false ?_|refine Amz false ?_);simp (disch:=omega) only [push_cast,seval])
 | ((first|(refine call0D (BCall.ofP (Bxz _ _ ?_ ?_)) ?_;(iterate 2 (exact sd));rintro _ _ ⟨⟨s,big,al,k,many,hs5,rfl⟩,rfl⟩)|((first|refine call0D (iFV_ok _ _ _ _ _ _ ?_ ?_) ?_|refine qcall0D (iFV_ok _ _ _ _ _ _ ?_ ?_) ⟨_,_,rfl,rfl⟩ ?_);(iterate 2 (exact sd));rintro _ _ ⟨rfl,rfl⟩)|((first|refine call0D (sFV_ok _ _ _ _ _ _ ?_ ?_) ?_|refine qcall0D (sFV_ok _ _ _ _ _ _ ?_ ?_) ⟨_,_,rfl,rfl⟩ ?_);(iterate 2 (exact sd));rintro _ _ ⟨rfl,rfl⟩)|((first|refine call0D (BCall.ofP (equalViewL_ok _ _ _ _ _ _ _ _ _ _ ?_ ?_ ?_ ?_ ?_)) ?_|refine qcall0D (BCall.ofP (equalViewL_ok _ _ _ _ _ _ _ _ _ _ ?_ ?_ ?_ ?_ ?_)) ⟨_,_,rfl,rfl⟩ ?_);(iterate 5 (exact sd));rintro _ _ ⟨rfl,rfl⟩)|((first|refine call0D (BCall.ofP (iDo_ok _ _ _ _ _ _ _ _ _ _ ?_ ?_ ?_ ?_ ?_)) ?_|refine qcall0D (BCall.ofP (iDo_ok _ _ _ _ _ _ _ _ _ _ ?_ ?_ ?_ ?_ ?_)) ⟨_,_,rfl,rfl⟩ ?_);(iterate 5 (exact sd));rintro _ _ ⟨rfl,rfl⟩)|((first|refine call0D (BCall.ofP (iIsOneToOne_ok _ _ _ _ _ ?_ ?_ ?_)) ?_|refine qcall0D (BCall.ofP (iIsOneToOne_ok _ _ _ _ _ ?_ ?_ ?_)) ⟨_,_,rfl,rfl⟩ ?_);(iterate 3 (exact sd));rintro _ _ ⟨rfl,rfl⟩)|((first|refine call0D (BCall.ofP (iCountOf_ok _ _ ?_ ?_)) ?_|refine qcall0D (BCall.ofP (iCountOf_ok _ _ ?_ ?_)) ⟨_,_,rfl,rfl⟩ ?_);(iterate 2 (exact sd));rintro _ _ ⟨rfl,rfl⟩))<;>(try simp (disch:=omega) only [push_cast,seval]))
 | (refine Aiz ⟨.inr rfl,_,rfl,?_⟩;(try simp (disch:=omega) only [push_cast,seval]))))

end Go.Proofs.YtgiaepecaokcfaaDoor
