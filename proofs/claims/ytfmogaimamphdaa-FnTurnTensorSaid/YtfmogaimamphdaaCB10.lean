/- Texts of this verifier. -/
import Derived.Test.YtfmogaimamphdaaCB9
import Derived.Test.YtfmogaimamphdaaCM1
import Derived.Test.YtfmogaimamphdaaCW3
set_option linter.unusedSimpArgs false
set_option linter.unusedVariables false
set_option maxRecDepth 4000
set_option maxHeartbeats 4000000
namespace Go.Proofs.Ytfmogaimamphdaa
open VwM Vw Go

set_option maxHeartbeats 16000000 in
theorem drawTTB_ok (bs:List Int) (n:Nat) (hn:bs.length=n) (hb:n ≤ 1099511627776 ∧ ∀ x ∈ bs,0 ≤ x ∧ x ≤ 255):BCall Try.prog 21 [.rows false (UL bs) n] [] (fun r H'=>∃ (x y o:List Int),((x.length ≤ 5 ∧ y.length ≤ 61) ∧ o.length ≤ 5) ∧ r=.tup [.agg [.own 0 x.length 1,.own 1 y.length 1],.own 2 o.length 1] ∧ H'=[IL x,IL y,IL o]):=by
  refine A8z (pins:=[]) (pin:=0) l21_eq rfl rfl rfl ?_
  (repeat' (first
 | (first|refine Akz ?_|refine Aez ?_)
 | ((first|refine Alz ?_|refine Adz ?_|refine Afz ?_|refine Agz ?_);simp (disch:=omega) only [push_cast,seval,l21r0,l21r1,l21r2,l21r3,l21r4,l21r5,l21r6,l21r7,l21r8,l21r9,l21r10])
 | ((first|refine Aaz ?_ ?_|refine Acz ?_ ?_|refine Abz ?_ ?_)<;>intro h<;>(try simp only [h])<;>(try simp only [bitvec_to_nat] at h)<;>(try simp only [h])<;>(first|(exfalso;omega)|(exfalso;simp_all;done)|(simp (disch:=omega) only [push_cast,seval])|skip))
 | ((first|((with_reducible refine Apz (f:=25) true ?_);simp (disch:=omega) only [push_cast,seval];(refine call0D (Cvz _ _ ?_ ?_) ?_;(iterate 2 (exact sd));rintro _ _ ⟨bs0,hbs0,rfl,rfl⟩))|((with_reducible refine callD_ids (f:=32) [144] true ?_);simp (disch:=omega) only [push_cast,seval];(refine B0z (id:=144) (Cqz _ _ ?_ ?_) (by (simp (disch:=omega) only [push_cast,seval])<;>rfl) ?_;(iterate 2 (exact sd));rintro _ _ ⟨x1,y1,q,⟨⟨hx1,hx2⟩,hy1,hy2⟩,hq,rfl,rfl⟩))|((with_reducible refine callD_ids (f:=31) [144] true ?_);simp (disch:=omega) only [push_cast,seval];(refine B0z (id:=144) (Bmz _ _ _ ?_ ?_) (by (simp (disch:=omega) only [push_cast,seval])<;>rfl) ?_;(iterate 2 (exact sd));rintro _ _ ⟨x,hx0,hx1,rfl,rfl⟩))|((with_reducible refine qcallI_of (f:=31) [144] true ?_);simp (disch:=omega) only [push_cast,seval];(refine Bsz (id:=144) (Bmz _ _ _ ?_ ?_) (by (simp (disch:=omega) only [push_cast,seval])<;>rfl) (by decide) ⟨_,_,0,by omega,Or.inr (Or.inr rfl),rfl,rfl⟩ ?_;(iterate 2 (exact sd));rintro _ _ ⟨x,hx0,hx1,rfl,rfl⟩))|((with_reducible refine callD_ids (f:=33) (args:=[Operand.tmp 37,Operand.tmp 44]) [144,704] true ?_);simp (disch:=omega) only [push_cast,seval];(refine D4z (id:=144) (id':=704) (by decide) (Eqz _ _ _ _ ?_ ?_ ?_ ?_ ?_) (by (simp (disch:=omega) only [push_cast,seval])<;>rfl) (by (simp (disch:=omega) only [push_cast,seval])<;>rfl) ?_;(iterate 5 (exact sd));rintro _ _ ⟨x,hx,hx0,rfl,rfl⟩))|((with_reducible refine callD_ids (f:=33) [144] true ?_);simp (disch:=omega) only [push_cast,seval];(refine B0z (id:=144) (B9z _ _ _ _ ?_ ?_ ?_ ?_ ?_) (by (simp (disch:=omega) only [push_cast,seval])<;>rfl) ?_;(iterate 5 (exact sd));rintro _ _ ⟨x,hx,hx0,rfl,rfl⟩))|((with_reducible refine qcallI_of (f:=33) [144] true ?_);simp (disch:=omega) only [push_cast,seval];(refine Bsz (id:=144) (B9z _ _ _ _ ?_ ?_ ?_ ?_ ?_) (by (simp (disch:=omega) only [push_cast,seval])<;>rfl) (by decide) (by simp only [Ciz,Cwz];exact ⟨_,_,_,List.mem_cons_self,by omega,rfl,rfl⟩) ?_;(iterate 5 (exact sd));rintro _ _ ⟨x,hx,hx0,rfl,rfl⟩)))<;>(try simp (disch:=omega) only [push_cast,seval]))
 | ((first|refine Apz false ?_|refine qcallD_of false ?_);simp (disch:=omega) only [push_cast,seval])
 | ((first|((first|refine call0D (Brz _ _ _ _ ?_ ?_) ?_|refine qcall0D (Brz _ _ _ _ ?_ ?_) ⟨_,_,rfl,rfl⟩ ?_);(iterate 2 (exact sd));rintro _ _ ⟨rfl,rfl⟩))<;>(try simp (disch:=omega) only [push_cast,seval]))))
  refine C9z (fun z:List Int × Int=>mkS [(2,.ref 32 2 0),(4,.ref 144 2 0),(5,.ref 80 2 0),(6,.own 192 z.1.length 1),(7,.int .i64 z.1.length)] [(32,[.val (.slice none 0 0),.val (.slice none 0 0)]),(144,RD bs0 z.2),(80,[.own 176 x1.length 1,.own 177 y1.length 1]),(176,IL x1),(177,IL y1),(192,IL z.1)])
    (fun z=>(z.1.length ≤ x1.length ∧ ∀ v ∈ z.1,0 ≤ v ∧ v ≤ 4) ∧ 0 ≤ z.2 ∧ z.2 + x1.length ≤ 200 + z.1.length) (fun z=>x1.length - z.1.length) ([],q) ⟨⟨by simp,fun v hv=>by cases hv⟩,by simp only;omega,by simp only [List.length_nil];omega⟩ ?_ ?_
  · refine SubW.of ?_
    (refine Sub.of_lists ?_ ?_ ?_ ?_ ?_<;>simp [Vw.mkS,Vw.lk,Vw.hk,AV.inn,innL,Aqz,Anz,Asz,-List.map_set,-List.getD_eq_getElem?_getD])
  · rintro ⟨o,q2⟩ ⟨⟨ho,hov⟩,hq1,hq2⟩
    simp only at ho hov hq1 hq2 ⊢
    by_cases hlt:o.length < x1.length
    · (repeat' (first
 | (first|refine Akz ?_|refine Aez ?_)
 | ((first|refine Alz ?_|refine Adz ?_|refine Afz ?_|refine Agz ?_);simp (disch:=omega) only [push_cast,seval,l21r0,l21r1,l21r2,l21r3,l21r4,l21r5,l21r6,l21r7,l21r8,l21r9,l21r10,hlt])
 | ((first|refine Aaz ?_ ?_|refine Acz ?_ ?_|refine Abz ?_ ?_)<;>intro h<;>(try simp only [h])<;>(try simp only [bitvec_to_nat] at h)<;>(try simp only [h])<;>(first|(exfalso;omega)|(exfalso;simp_all;done)|(simp (disch:=omega) only [push_cast,seval,hlt])|skip))
 | ((first|((with_reducible refine Apz (f:=25) true ?_);simp (disch:=omega) only [push_cast,seval,hlt];(refine call0D (Cvz _ _ ?_ ?_) ?_;(iterate 2 (exact sd));rintro _ _ ⟨bs0,hbs0,rfl,rfl⟩))|((with_reducible refine callD_ids (f:=32) [144] true ?_);simp (disch:=omega) only [push_cast,seval,hlt];(refine B0z (id:=144) (Cqz _ _ ?_ ?_) (by (simp (disch:=omega) only [push_cast,seval,hlt])<;>rfl) ?_;(iterate 2 (exact sd));rintro _ _ ⟨x1,y1,q,⟨⟨hx1,hx2⟩,hy1,hy2⟩,hq,rfl,rfl⟩))|((with_reducible refine callD_ids (f:=31) [144] true ?_);simp (disch:=omega) only [push_cast,seval,hlt];(refine B0z (id:=144) (Bmz _ _ _ ?_ ?_) (by (simp (disch:=omega) only [push_cast,seval,hlt])<;>rfl) ?_;(iterate 2 (exact sd));rintro _ _ ⟨x,hx0,hx1,rfl,rfl⟩))|((with_reducible refine qcallI_of (f:=31) [144] true ?_);simp (disch:=omega) only [push_cast,seval,hlt];(refine Bsz (id:=144) (Bmz _ _ _ ?_ ?_) (by (simp (disch:=omega) only [push_cast,seval,hlt])<;>rfl) (by decide) ⟨_,_,0,by omega,Or.inr (Or.inr rfl),rfl,rfl⟩ ?_;(iterate 2 (exact sd));rintro _ _ ⟨x,hx0,hx1,rfl,rfl⟩))|((with_reducible refine callD_ids (f:=33) (args:=[Operand.tmp 37,Operand.tmp 44]) [144,704] true ?_);simp (disch:=omega) only [push_cast,seval,hlt];(refine D4z (id:=144) (id':=704) (by decide) (Eqz _ _ _ _ ?_ ?_ ?_ ?_ ?_) (by (simp (disch:=omega) only [push_cast,seval,hlt])<;>rfl) (by (simp (disch:=omega) only [push_cast,seval,hlt])<;>rfl) ?_;(iterate 5 (exact sd));rintro _ _ ⟨x,hx,hx0,rfl,rfl⟩))|((with_reducible refine callD_ids (f:=33) [144] true ?_);simp (disch:=omega) only [push_cast,seval,hlt];(refine B0z (id:=144) (B9z _ _ _ _ ?_ ?_ ?_ ?_ ?_) (by (simp (disch:=omega) only [push_cast,seval,hlt])<;>rfl) ?_;(iterate 5 (exact sd));rintro _ _ ⟨x,hx,hx0,rfl,rfl⟩))|((with_reducible refine qcallI_of (f:=33) [144] true ?_);simp (disch:=omega) only [push_cast,seval,hlt];(refine Bsz (id:=144) (B9z _ _ _ _ ?_ ?_ ?_ ?_ ?_) (by (simp (disch:=omega) only [push_cast,seval,hlt])<;>rfl) (by decide) (by simp only [Ciz,Cwz];exact ⟨_,_,_,List.mem_cons_self,by omega,rfl,rfl⟩) ?_;(iterate 5 (exact sd));rintro _ _ ⟨x,hx,hx0,rfl,rfl⟩)))<;>(try simp (disch:=omega) only [push_cast,seval,hlt]))
 | ((first|refine Apz false ?_|refine qcallD_of false ?_);simp (disch:=omega) only [push_cast,seval,hlt])
 | ((first|((first|refine call0D (Brz _ _ _ _ ?_ ?_) ?_|refine qcall0D (Brz _ _ _ _ ?_ ?_) ⟨_,_,rfl,rfl⟩ ?_);(iterate 2 (exact sd));rintro _ _ ⟨rfl,rfl⟩))<;>(try simp (disch:=omega) only [push_cast,seval,hlt]))))
      have hil:=H2z (xs:=o) (k:=x.toNat) (o.length:Int) (by omega)
      refine ⟨(ins o x.toNat o.length,q2 + 1),⟨⟨by simp only [hil];omega,fun v hv=>?_⟩,by simp only;omega,by simp only [hil];omega⟩,by simp only [hil];omega,?_⟩
      · rcases mem_ins hv with h|h
        · omega
        · exact hov v h
      simp only [hil]
      generalize ins o x.toNat (o.length:Int)=O2 at *
      refine SubW.trans (s1:=mkS [(2,.ref 32 2 0),(4,.ref 144 2 0),(5,.ref 80 2 0),(6,.own 432 (o.length + 1) 1),(7,.int .i64 ((o.length:Int) + 1))] [(32,[.val (.slice none 0 0),.val (.slice none 0 0)]),(144,RD bs0 (q2 + 1)),(80,[.own 176 x1.length 1,.own 177 y1.length 1]),(176,IL x1),(177,IL y1),(432,IL O2)]) (SubW.of (by (refine Sub.of_lists ?_ ?_ ?_ ?_ ?_<;>simp [Vw.mkS,Vw.lk,Vw.hk,AV.inn,innL,Aqz,Anz,Asz,-List.map_set,-List.getD_eq_getElem?_getD]))) ?_
      refine SubW.mk1 432 192 (by omega) (SubW.of ?_)
      simp only [List.map_cons,List.map_nil,AV.sw,swL,swL_ints,swp,↓reduceIte,Nat.reduceEqDiff]
      (refine Sub.of_lists ?_ ?_ ?_ ?_ ?_<;>simp [Vw.mkS,Vw.lk,Vw.hk,AV.inn,innL,Aqz,Anz,Asz,-List.map_set,-List.getD_eq_getElem?_getD])
    · by_cases hz:o.length=0
      · have ho0:o=[]:=List.eq_nil_of_length_eq_zero hz
        subst ho0
        (repeat' (first
 | (first|refine Akz ?_|refine Aez ?_)
 | ((first|refine Alz ?_|refine Adz ?_|refine Afz ?_|refine Agz ?_);simp (disch:=omega) only [push_cast,seval,l21r0,l21r1,l21r2,l21r3,l21r4,l21r5,l21r6,l21r7,l21r8,l21r9,l21r10,hlt])
 | ((first|refine Aaz ?_ ?_|refine Acz ?_ ?_|refine Abz ?_ ?_)<;>intro h<;>(try simp only [h])<;>(try simp only [bitvec_to_nat] at h)<;>(try simp only [h])<;>(first|(exfalso;omega)|(exfalso;simp_all;done)|(simp (disch:=omega) only [push_cast,seval,hlt])|skip))
 | ((first|((with_reducible refine Apz (f:=25) true ?_);simp (disch:=omega) only [push_cast,seval,hlt];(refine call0D (Cvz _ _ ?_ ?_) ?_;(iterate 2 (exact sd));rintro _ _ ⟨bs0,hbs0,rfl,rfl⟩))|((with_reducible refine callD_ids (f:=32) [144] true ?_);simp (disch:=omega) only [push_cast,seval,hlt];(refine B0z (id:=144) (Cqz _ _ ?_ ?_) (by (simp (disch:=omega) only [push_cast,seval,hlt])<;>rfl) ?_;(iterate 2 (exact sd));rintro _ _ ⟨x1,y1,q,⟨⟨hx1,hx2⟩,hy1,hy2⟩,hq,rfl,rfl⟩))|((with_reducible refine callD_ids (f:=31) [144] true ?_);simp (disch:=omega) only [push_cast,seval,hlt];(refine B0z (id:=144) (Bmz _ _ _ ?_ ?_) (by (simp (disch:=omega) only [push_cast,seval,hlt])<;>rfl) ?_;(iterate 2 (exact sd));rintro _ _ ⟨x,hx0,hx1,rfl,rfl⟩))|((with_reducible refine qcallI_of (f:=31) [144] true ?_);simp (disch:=omega) only [push_cast,seval,hlt];(refine Bsz (id:=144) (Bmz _ _ _ ?_ ?_) (by (simp (disch:=omega) only [push_cast,seval,hlt])<;>rfl) (by decide) ⟨_,_,0,by omega,Or.inr (Or.inr rfl),rfl,rfl⟩ ?_;(iterate 2 (exact sd));rintro _ _ ⟨x,hx0,hx1,rfl,rfl⟩))|((with_reducible refine callD_ids (f:=33) (args:=[Operand.tmp 37,Operand.tmp 44]) [144,704] true ?_);simp (disch:=omega) only [push_cast,seval,hlt];(refine D4z (id:=144) (id':=704) (by decide) (Eqz _ _ _ _ ?_ ?_ ?_ ?_ ?_) (by (simp (disch:=omega) only [push_cast,seval,hlt])<;>rfl) (by (simp (disch:=omega) only [push_cast,seval,hlt])<;>rfl) ?_;(iterate 5 (exact sd));rintro _ _ ⟨x,hx,hx0,rfl,rfl⟩))|((with_reducible refine callD_ids (f:=33) [144] true ?_);simp (disch:=omega) only [push_cast,seval,hlt];(refine B0z (id:=144) (B9z _ _ _ _ ?_ ?_ ?_ ?_ ?_) (by (simp (disch:=omega) only [push_cast,seval,hlt])<;>rfl) ?_;(iterate 5 (exact sd));rintro _ _ ⟨x,hx,hx0,rfl,rfl⟩))|((with_reducible refine qcallI_of (f:=33) [144] true ?_);simp (disch:=omega) only [push_cast,seval,hlt];(refine Bsz (id:=144) (B9z _ _ _ _ ?_ ?_ ?_ ?_ ?_) (by (simp (disch:=omega) only [push_cast,seval,hlt])<;>rfl) (by decide) (by simp only [Ciz,Cwz];exact ⟨_,_,_,List.mem_cons_self,by omega,rfl,rfl⟩) ?_;(iterate 5 (exact sd));rintro _ _ ⟨x,hx,hx0,rfl,rfl⟩)))<;>(try simp (disch:=omega) only [push_cast,seval,hlt]))
 | ((first|refine Apz false ?_|refine qcallD_of false ?_);simp (disch:=omega) only [push_cast,seval,hlt])
 | ((first|((first|refine call0D (Brz _ _ _ _ ?_ ?_) ?_|refine qcall0D (Brz _ _ _ _ ?_ ?_) ⟨_,_,rfl,rfl⟩ ?_);(iterate 2 (exact sd));rintro _ _ ⟨rfl,rfl⟩))<;>(try simp (disch:=omega) only [push_cast,seval,hlt]))))
        all_goals ((refine Ahz ⟨.inr rfl,[176,177,192],[],_,by decide,rfl,?_⟩;(try simp (disch:=omega) only [push_cast,seval,↓Amz,↓Aiz,↓List.map_cons,↓List.map_nil]));exact ⟨x1,y1,[],⟨⟨by assumption,hy1⟩,by simp⟩,rfl,rfl⟩)
      · have hla:=hov _ (A2z (xs:=o) (j:=((o.length:Int) - 1).toNat) (by omega))
        generalize hw:o.getD ((o.length:Int) - 1).toNat 0=w at *
        (repeat' (first
 | (first|refine Akz ?_|refine Aez ?_)
 | ((first|refine Alz ?_|refine Adz ?_|refine Afz ?_|refine Agz ?_);simp (disch:=omega) only [push_cast,seval,l21r0,l21r1,l21r2,l21r3,l21r4,l21r5,l21r6,l21r7,l21r8,l21r9,l21r10,hlt,hw])
 | ((first|refine Aaz ?_ ?_|refine Acz ?_ ?_|refine Abz ?_ ?_)<;>intro h<;>(try simp only [h])<;>(try simp only [bitvec_to_nat] at h)<;>(try simp only [h])<;>(first|(exfalso;omega)|(exfalso;simp_all;done)|(simp (disch:=omega) only [push_cast,seval,hlt,hw])|skip))
 | ((first|((with_reducible refine Apz (f:=25) true ?_);simp (disch:=omega) only [push_cast,seval,hlt,hw];(refine call0D (Cvz _ _ ?_ ?_) ?_;(iterate 2 (exact sd));rintro _ _ ⟨bs0,hbs0,rfl,rfl⟩))|((with_reducible refine callD_ids (f:=32) [144] true ?_);simp (disch:=omega) only [push_cast,seval,hlt,hw];(refine B0z (id:=144) (Cqz _ _ ?_ ?_) (by (simp (disch:=omega) only [push_cast,seval,hlt,hw])<;>rfl) ?_;(iterate 2 (exact sd));rintro _ _ ⟨x1,y1,q,⟨⟨hx1,hx2⟩,hy1,hy2⟩,hq,rfl,rfl⟩))|((with_reducible refine callD_ids (f:=31) [144] true ?_);simp (disch:=omega) only [push_cast,seval,hlt,hw];(refine B0z (id:=144) (Bmz _ _ _ ?_ ?_) (by (simp (disch:=omega) only [push_cast,seval,hlt,hw])<;>rfl) ?_;(iterate 2 (exact sd));rintro _ _ ⟨x,hx0,hx1,rfl,rfl⟩))|((with_reducible refine qcallI_of (f:=31) [144] true ?_);simp (disch:=omega) only [push_cast,seval,hlt,hw];(refine Bsz (id:=144) (Bmz _ _ _ ?_ ?_) (by (simp (disch:=omega) only [push_cast,seval,hlt,hw])<;>rfl) (by decide) ⟨_,_,0,by omega,Or.inr (Or.inr rfl),rfl,rfl⟩ ?_;(iterate 2 (exact sd));rintro _ _ ⟨x,hx0,hx1,rfl,rfl⟩))|((with_reducible refine callD_ids (f:=33) (args:=[Operand.tmp 37,Operand.tmp 44]) [144,704] true ?_);simp (disch:=omega) only [push_cast,seval,hlt,hw];(refine D4z (id:=144) (id':=704) (by decide) (Eqz _ _ _ _ ?_ ?_ ?_ ?_ ?_) (by (simp (disch:=omega) only [push_cast,seval,hlt,hw])<;>rfl) (by (simp (disch:=omega) only [push_cast,seval,hlt,hw])<;>rfl) ?_;(iterate 5 (exact sd));rintro _ _ ⟨x,hx,hx0,rfl,rfl⟩))|((with_reducible refine callD_ids (f:=33) [144] true ?_);simp (disch:=omega) only [push_cast,seval,hlt,hw];(refine B0z (id:=144) (B9z _ _ _ _ ?_ ?_ ?_ ?_ ?_) (by (simp (disch:=omega) only [push_cast,seval,hlt,hw])<;>rfl) ?_;(iterate 5 (exact sd));rintro _ _ ⟨x,hx,hx0,rfl,rfl⟩))|((with_reducible refine qcallI_of (f:=33) [144] true ?_);simp (disch:=omega) only [push_cast,seval,hlt,hw];(refine Bsz (id:=144) (B9z _ _ _ _ ?_ ?_ ?_ ?_ ?_) (by (simp (disch:=omega) only [push_cast,seval,hlt,hw])<;>rfl) (by decide) (by simp only [Ciz,Cwz];exact ⟨_,_,_,List.mem_cons_self,by omega,rfl,rfl⟩) ?_;(iterate 5 (exact sd));rintro _ _ ⟨x,hx,hx0,rfl,rfl⟩)))<;>(try simp (disch:=omega) only [push_cast,seval,hlt,hw]))
 | ((first|refine Apz false ?_|refine qcallD_of false ?_);simp (disch:=omega) only [push_cast,seval,hlt,hw])
 | ((first|((first|refine call0D (Brz _ _ _ _ ?_ ?_) ?_|refine qcall0D (Brz _ _ _ _ ?_ ?_) ⟨_,_,rfl,rfl⟩ ?_);(iterate 2 (exact sd));rintro _ _ ⟨rfl,rfl⟩))<;>(try simp (disch:=omega) only [push_cast,seval,hlt,hw]))))
        · (refine Ahz ⟨.inr rfl,[176,177,192],[],_,by decide,rfl,?_⟩;(try simp (disch:=omega) only [push_cast,seval,↓Amz,↓Aiz,↓List.map_cons,↓List.map_nil,Byz]))
          exact ⟨x1,y1,o.set 0 x,⟨⟨by assumption,hy1⟩,by simp;omega⟩,by simp,by simp⟩
        · (refine Ahz ⟨.inr rfl,[176,177,192],[],_,by decide,rfl,?_⟩;(try simp (disch:=omega) only [push_cast,seval,↓Amz,↓Aiz,↓List.map_cons,↓List.map_nil]))
          exact ⟨x1,y1,o,⟨⟨by assumption,hy1⟩,by omega⟩,rfl,rfl⟩
theorem Cmz (bs:List Int) (n:Nat) (hn:bs.length=n) (hb:n ≤ 1099511627776 ∧ ∀ x ∈ bs,0 ≤ x ∧ x ≤ 255):PCall Try.prog 21 [.rows false (UL bs) n] (fun r=>∃ (x y o:List Int),((x.length ≤ 5 ∧ y.length ≤ 61) ∧ o.length ≤ 5) ∧ r=.tup [.agg [.rows true (IL x) x.length,.rows true (IL y) y.length],.rows true (IL o) o.length]):=by
  refine (BCall.plain (drawTTB_ok bs n hn hb)).mono ?_
  rintro r ⟨r0,H',⟨x,y,o,h1,rfl,rfl⟩,rfl⟩
  refine ⟨x,y,o,h1,?_⟩
  simp [AV.ren,nthH,List.map_map,Function.comp_def]


/-- The order that turns back,as far as it is known. -/
def agT (order:List Int) (n k:Nat):List Int:=(List.range n).map fun d=>if invO order d < k then (invO order d:Int) else 0
theorem Cfz (order:List Int) (n k:Nat):(agT order n k).length=n:=by simp [agT]
theorem agT_at {order:List Int} {n k d:Nat} (hd:d < n):(agT order n k).getD d 0=if invO order d < k then (invO order d:Int) else 0:=by simp [agT,List.getD,hd]
theorem agT_zero (order:List Int) (n:Nat):agT order n 0=List.replicate n 0:=by
  refine Bgz (by rw [Cfz,List.length_replicate]) fun j hj=>?_
  rw [Cfz] at hj
  rw [agT_at hj,if_neg (by omega)]
  simp [List.getD,hj]
theorem agT_succ {order:List Int} {n k c:Nat} (ho:isOrd order n) (hk:k < n) (hc:order.getD k 0=c):(agT order n k).set c k=agT order n (k + 1):=by
  have hx:=ho.2.1 _ (A2z (xs:=order) (j:=k) (by rw [ho.1];exact hk))
  have hcn:c < n:=by omega
  have hic:invO order c=k:=by
    have:=invO_at ho hk
    rwa [hc,Int.toNat_natCast] at this
  refine Bgz (by rw [List.length_set,Cfz,Cfz]) fun j hj=>?_
  rw [List.length_set,Cfz] at hj
  rw [agT_at hj]
  by_cases hjc:j=c
  · subst hjc
    rw [hic,if_pos (by omega)]
    simp [List.getD,List.getElem?_set,Cfz,hj]
  · have e:((agT order n k).set c (k:Int)).getD j 0=(agT order n k).getD j 0:=by simp [List.getD,List.getElem?_set,Ne.symm hjc]
    rw [e,agT_at hj]
    have hne:invO order j ≠ k:=fun h=>by
      have h2:=(Diz ho hj).2
      rw [h,hc] at h2
      omega
    by_cases h2:invO order j < k
    · rw [if_pos h2,if_pos (by omega)]
    · rw [if_neg h2,if_neg (by omega)]
theorem agT_all {order:List Int} {n:Nat} (ho:isOrd order n):isOrd (agT order n n) n ∧ permL order (agT order n n)=nums 0 1 n:=by
  have hat:∀ d,d < n → (agT order n n).getD d 0=(invO order d:Int):=fun d hd=>by rw [agT_at hd,if_pos (Diz ho hd).1]
  have hp:permL order (agT order n n)=nums 0 1 n:=by
    refine Bgz (by rw [Ayz,Cfz,B3z]) fun j hj=>?_
    rw [Ayz,Cfz] at hj
    rw [Ccz _ _ (by rw [Cfz];exact hj),hat j hj,Int.toNat_natCast,(Diz ho hj).2,Clz _ _ _ _ hj]
    omega
  refine ⟨⟨Cfz _ _ _,fun x hx=>?_,?_⟩,hp⟩
  · obtain ⟨d,hd,rfl⟩:=Dgz.1 hx
    rw [Cfz] at hd
    rw [hat d hd]
    have:=(Diz ho hd).1
    omega
  · have hnd:=Eez n
    rw [← hp] at hnd
    unfold permL at hnd
    exact List.Pairwise.of_map (fun i:Int=>order.getD i.toNat 0) (fun a b h e=>h (by rw [e])) hnd
/-- Turned back is as before. -/
theorem turn_id {t:Tn} (hv:vT t=true):turnT t (nums 0 1 t.1.length)=t:=by
  obtain ⟨h1,h2,h3⟩:=B6z.1 hv
  have h0:=(A5z h1).2.1
  unfold turnT
  have e1:permL t.1 (nums 0 1 t.1.length)=t.1:=C5z t.1
  have e2:permL (rowS t.1) (nums 0 1 t.1.length)=rowS t.1:=by have:=C5z (rowS t.1);rwa [Dez] at this
  rw [e1,e2,Inz h1,show (pr t.1).toNat=t.2.length by omega]
  have e3:takesL t.2 (nums 0 1 t.2.length)=t.2:=C5z t.2
  rw [e3]
theorem turn_back {t:Tn} {order:List Int} (hv:vT t=true) (ho:isOrd order t.1.length):turnT (turnT t order) (agT order t.1.length t.1.length)=t:=by
  obtain ⟨ha,hp⟩:=agT_all ho
  have h1:=turn_ct hv ho
  obtain ⟨e,he,_⟩:=ct_some h1
  have h2:=ct_perm he h1 (order:=agT order t.1.length t.1.length) (by rw [ho.1];exact ha)
  rw [hp] at h2
  have hid:isOrd (nums 0 1 t.1.length) t.1.length:=⟨by simp,fun x hx=>Cdz.1 hx,Eez _⟩
  rw [turn_ct hv hid,turn_id hv] at h2
  injection h2 with h2
  exact h2.symm
theorem turn_total {t:Tn} {order:List Int} (hv:vT t=true) (ho:isOrd order t.1.length):sumT (turnT t order).2 (turnT t order).2.length=sumT t.2 t.2.length:=by
  obtain ⟨h1,h2,h3⟩:=B6z.1 hv
  have h0:=(A5z h1).2.1
  refine sumT_perm ?_
  have hpm:=offs_perm (b:=0) (st:=rowS t.1) (A5z h1).1 ho
  rw [Inz h1,show (pr t.1).toNat=t.2.length by omega] at hpm
  have h4:(takesL t.2 (offs 0 (permL t.1 order) (permL (rowS t.1) order))).Perm (takesL t.2 (nums 0 1 t.2.length)):=hpm.map _
  rwa [show takesL t.2 (nums 0 1 t.2.length)=t.2 from C5z t.2] at h4


theorem iTTo_ok (a1 a2 order:List Int) (n1 n2 m:Nat) (h:(a1.length=n1 ∧ a2.length=n2) ∧ order.length=m) (hb:(n1 ≤ 1099511627776 ∧ n2 ≤ 1099511627776) ∧ m ≤ 1099511627776) :
    BCall Try.prog 11 [.agg [.rows false (IL a1) n1,.rows false (IL a2) n2],.rows false (IL order) m] [] (OT (ttT (a1,a2) order).1 (ttT (a1,a2) order).2):=iTT_ok a1 a2 order n1 n2 m h.1.1 h.1.2 h.2 hb


set_option maxHeartbeats 32000000 in
theorem fTT_ok (bs:List Int) (hl:bs.length ≤ 9223372036854775807) (hb:∀ x ∈ bs,0 ≤ x ∧ x ≤ 255):PCall Try.prog 6 [.rows false (UL bs) bs.length] (fun r=>r=.bool true):=by
  refine A0z l6_eq rfl ?_
  by_cases h:bs.length ≤ 1048576
  · have q:bs.length ≤ 1099511627776 ∧ ∀ x ∈ bs,0 ≤ x ∧ x ≤ 255:=⟨by omega,hb⟩
    (repeat' (first
 | (refine awp_joinL (c1:=.reg l6r3) (fun x:List Int × List Int × List Int=>mkS [(3,.ref 48 2 0),(4,.rows true (IL x.2.2) x.2.2.length)] [(48,[.rows true (IL x.1) x.1.length,.rows true (IL x.2.1) x.2.1.length])]) (fun x=>(x.1.length ≤ 5 ∧ x.2.1.length ≤ 61) ∧ x.2.2.length ≤ 5) ?_ ?_)
 | (first|refine Akz ?_|refine Aez ?_)
 | ((first|refine Alz ?_|refine Arz (mid:=l6r5a) (post:=l6r5b) Axz (by decide) ?_|refine Arz (mid:=l6r6a) (post:=l6r6b) Axz (by decide) ?_|refine Arz (mid:=l6r14a) (post:=l6r14b) Axz (by decide) ?_|refine Adz ?_|refine Afz ?_|refine Agz ?_);simp (disch:=omega) only [push_cast,seval,l6r0,l6r1,l6r2,l6r3,l6r4,l6r5a,l6r5b,l6r5,l6r6a,l6r6b,l6r6,l6r7,l6r8,l6r9,l6r10,l6r11,l6r12,l6r13,l6r14a,l6r14b,l6r14])
 | ((first|refine Aaz ?_ ?_|refine Acz ?_ ?_|refine Abz ?_ ?_)<;>intro h<;>(try simp only [h])<;>(try simp only [bitvec_to_nat] at h)<;>(try simp only [h])<;>(first|(exfalso;omega)|(exfalso;simp_all;done)|(simp (disch:=omega) only [push_cast,seval])|skip))
 | ((first|refine Apz false ?_|refine qcallD_of false ?_);simp (disch:=omega) only [push_cast,seval])
 | ((first|(refine call0D (BCall.ofP (Cmz _ _ ?_ ?_)) ?_;(iterate 2 (exact sd));rintro _ _ ⟨⟨x1,y1,o1,hxy,rfl⟩,rfl⟩)|((first|refine call0D (iTTo_ok _ _ _ _ _ _ ?_ ?_) ?_|refine qcall0D (iTTo_ok _ _ _ _ _ _ ?_ ?_) ⟨_,_,rfl,rfl⟩ ?_);(iterate 2 (exact sd));rintro _ _ ⟨rfl,rfl⟩)|((first|refine call0D (sTT_ok _ _ _ _ _ _ ?_ ?_ ?_ ?_) ?_|refine qcall0D (sTT_ok _ _ _ _ _ _ ?_ ?_ ?_ ?_) ⟨_,_,rfl,rfl⟩ ?_);(iterate 4 (exact sd));rintro _ _ ⟨rfl,rfl⟩)|((first|refine call0D (BCall.ofP (lequT_ok _ _ _ _ _ _ _ _ ?_ ?_)) ?_|refine qcall0D (BCall.ofP (lequT_ok _ _ _ _ _ _ _ _ ?_ ?_)) ⟨_,_,rfl,rfl⟩ ?_);(iterate 2 (exact sd));rintro _ _ ⟨rfl,rfl⟩)|((first|refine call0D (BCall.ofP (ivT_ok _ _ _ _ ?_ ?_ ?_)) ?_|refine qcall0D (BCall.ofP (ivT_ok _ _ _ _ ?_ ?_ ?_)) ⟨_,_,rfl,rfl⟩ ?_);(iterate 3 (exact sd));rintro _ _ ⟨rfl,rfl⟩)|((first|refine call0D (BCall.ofP (totalB_ok _ _ ?_ ?_)) ?_|refine qcall0D (BCall.ofP (totalB_ok _ _ ?_ ?_)) ⟨_,_,rfl,rfl⟩ ?_);(iterate 2 (exact sd));rintro _ _ ⟨rfl,rfl⟩))<;>(try simp (disch:=omega) only [push_cast,seval]))
 | (refine Ahz ⟨.inr rfl,_,rfl,?_⟩;(try simp (disch:=omega) only [push_cast,seval]))))
    · exact ⟨(x1,y1,o1),hxy,by (refine Sub.of_lists ?_ ?_ ?_ ?_ ?_<;>simp [Vw.mkS,Vw.lk,Vw.hk,AV.inn,innL,Aqz,Anz,Asz,-List.map_set,-List.getD_eq_getElem?_getD])⟩
    · refine ⟨?_⟩
      rintro ⟨x,y,o⟩ hxy
      try simp only at hxy ⊢
      have hv0:vT ([],[])=false:=by decide
      have hC:(ttT (x,y) o).1.length ≤ 60 ∧ (ttT (x,y) o).2.length ≤ 60:=by
        cases hb:vT (x,y) && ordB o (x,y).1.length with
        | false=>rw [Hrz hb];simp
        | true =>
          rw [Bool.and_eq_true] at hb
          rw [Giz hb.1 hb.2]
          have:=turnT_len hb.1 (Gdz hb.2)
          omega
      cases hvt:vT (x,y) && ordB o x.length with
 | false =>
        have hno:=Hrz (t:=(x,y)) hvt
        rw [hno] at hC
        obtain ⟨⟨Q,R⟩,hP⟩:∃ p:Tn,p=(([]:List Int),([]:List Int)):=⟨_,rfl⟩
        rw [← hP] at hno hC
        have hvP:vT (Q,R)=false:=by rw [hP];exact hv0
        clear hP
        simp only at hC
        obtain ⟨hC1,hC2⟩:=hC
        cases hv:vT (x,y) with
        | false =>
          (repeat' (first
 | (first|refine Akz ?_|refine Aez ?_)
 | ((first|refine Alz ?_|refine Arz (mid:=l6r5a) (post:=l6r5b) Axz (by decide) ?_|refine Arz (mid:=l6r6a) (post:=l6r6b) Axz (by decide) ?_|refine Arz (mid:=l6r14a) (post:=l6r14b) Axz (by decide) ?_|refine Adz ?_|refine Afz ?_|refine Agz ?_);simp (disch:=omega) only [push_cast,seval,l6r0,l6r1,l6r2,l6r3,l6r4,l6r5a,l6r5b,l6r5,l6r6a,l6r6b,l6r6,l6r7,l6r8,l6r9,l6r10,l6r11,l6r12,l6r13,l6r14a,l6r14b,l6r14,hno,hv,hvP,decide_true])
 | ((first|refine Aaz ?_ ?_|refine Acz ?_ ?_|refine Abz ?_ ?_)<;>intro h<;>(try simp only [h])<;>(try simp only [bitvec_to_nat] at h)<;>(try simp only [h])<;>(first|(exfalso;omega)|(exfalso;simp_all;done)|(simp (disch:=omega) only [push_cast,seval,hno,hv,hvP,decide_true])|skip))
 | ((first|refine Apz false ?_|refine qcallD_of false ?_);simp (disch:=omega) only [push_cast,seval,hno,hv,hvP,decide_true])
 | ((first|(refine call0D (BCall.ofP (Cmz _ _ ?_ ?_)) ?_;(iterate 2 (exact sd));rintro _ _ ⟨⟨x1,y1,o1,hxy,rfl⟩,rfl⟩)|((first|refine call0D (iTTo_ok _ _ _ _ _ _ ?_ ?_) ?_|refine qcall0D (BCall.ofP (plainT ((iTTo_ok _ _ _ _ _ _ ?_ ?_)))) ⟨_,_,rfl,rfl⟩ ?_);(iterate 2 (exact sd));rintro _ _ ⟨rfl,rfl⟩)|((first|refine call0D (sTT_ok _ _ _ _ _ _ ?_ ?_ ?_ ?_) ?_|refine qcall0D (BCall.ofP (plainT ((sTT_ok _ _ _ _ _ _ ?_ ?_ ?_ ?_)))) ⟨_,_,rfl,rfl⟩ ?_);(iterate 4 (exact sd));rintro _ _ ⟨rfl,rfl⟩)|((first|refine call0D (BCall.ofP (lequT_ok _ _ _ _ _ _ _ _ ?_ ?_)) ?_|refine qcall0D (BCall.ofP (lequT_ok _ _ _ _ _ _ _ _ ?_ ?_)) ⟨_,_,rfl,rfl⟩ ?_);(iterate 2 (exact sd));rintro _ _ ⟨rfl,rfl⟩)|((first|refine call0D (BCall.ofP (ivT_ok _ _ _ _ ?_ ?_ ?_)) ?_|refine qcall0D (BCall.ofP (ivT_ok _ _ _ _ ?_ ?_ ?_)) ⟨_,_,rfl,rfl⟩ ?_);(iterate 3 (exact sd));rintro _ _ ⟨rfl,rfl⟩)|((first|refine call0D (BCall.ofP (totalB_ok _ _ ?_ ?_)) ?_|refine qcall0D (BCall.ofP (totalB_ok _ _ ?_ ?_)) ⟨_,_,rfl,rfl⟩ ?_);(iterate 2 (exact sd));rintro _ _ ⟨rfl,rfl⟩))<;>(try simp (disch:=omega) only [push_cast,seval,hno,hv,hvP,decide_true]))
 | (refine Ahz ⟨.inr rfl,_,rfl,?_⟩; (try simp (disch := omega) only [push_cast,seval,hno,hv,hvP,decide_true]))))
          all_goals (try simp)
        | true =>
          by_cases hlo:o.length=x.length
          · (repeat' (first
 | (first|refine Akz ?_|refine Aez ?_)
 | ((first|refine Alz ?_|refine Arz (mid:=l6r5a) (post:=l6r5b) Axz (by decide) ?_|refine Arz (mid:=l6r6a) (post:=l6r6b) Axz (by decide) ?_|refine Arz (mid:=l6r14a) (post:=l6r14b) Axz (by decide) ?_|refine Adz ?_|refine Afz ?_|refine Agz ?_);simp (disch:=omega) only [push_cast,seval,l6r0,l6r1,l6r2,l6r3,l6r4,l6r5a,l6r5b,l6r5,l6r6a,l6r6b,l6r6,l6r7,l6r8,l6r9,l6r10,l6r11,l6r12,l6r13,l6r14a,l6r14b,l6r14,hno,hv,hvP,hlo,ne_eq,not_true_eq_false,decide_false,decide_true])
 | ((first|refine Aaz ?_ ?_|refine Acz ?_ ?_|refine Abz ?_ ?_)<;>intro h<;>(try simp only [h])<;>(try simp only [bitvec_to_nat] at h)<;>(try simp only [h])<;>(first|(exfalso;omega)|(exfalso;simp_all;done)|(simp (disch:=omega) only [push_cast,seval,hno,hv,hvP,hlo,ne_eq,not_true_eq_false,decide_false,decide_true])|skip))
 | ((first|refine Apz false ?_|refine qcallD_of false ?_);simp (disch:=omega) only [push_cast,seval,hno,hv,hvP,hlo,ne_eq,not_true_eq_false,decide_false,decide_true])
 | ((first|(refine call0D (BCall.ofP (Cmz _ _ ?_ ?_)) ?_;(iterate 2 (exact sd));rintro _ _ ⟨⟨x1,y1,o1,hxy,rfl⟩,rfl⟩)|((first|refine call0D (iTTo_ok _ _ _ _ _ _ ?_ ?_) ?_|refine qcall0D (BCall.ofP (plainT ((iTTo_ok _ _ _ _ _ _ ?_ ?_)))) ⟨_,_,rfl,rfl⟩ ?_);(iterate 2 (exact sd));rintro _ _ ⟨rfl,rfl⟩)|((first|refine call0D (sTT_ok _ _ _ _ _ _ ?_ ?_ ?_ ?_) ?_|refine qcall0D (BCall.ofP (plainT ((sTT_ok _ _ _ _ _ _ ?_ ?_ ?_ ?_)))) ⟨_,_,rfl,rfl⟩ ?_);(iterate 4 (exact sd));rintro _ _ ⟨rfl,rfl⟩)|((first|refine call0D (BCall.ofP (lequT_ok _ _ _ _ _ _ _ _ ?_ ?_)) ?_|refine qcall0D (BCall.ofP (lequT_ok _ _ _ _ _ _ _ _ ?_ ?_)) ⟨_,_,rfl,rfl⟩ ?_);(iterate 2 (exact sd));rintro _ _ ⟨rfl,rfl⟩)|((first|refine call0D (BCall.ofP (ivT_ok _ _ _ _ ?_ ?_ ?_)) ?_|refine qcall0D (BCall.ofP (ivT_ok _ _ _ _ ?_ ?_ ?_)) ⟨_,_,rfl,rfl⟩ ?_);(iterate 3 (exact sd));rintro _ _ ⟨rfl,rfl⟩)|((first|refine call0D (BCall.ofP (totalB_ok _ _ ?_ ?_)) ?_|refine qcall0D (BCall.ofP (totalB_ok _ _ ?_ ?_)) ⟨_,_,rfl,rfl⟩ ?_);(iterate 2 (exact sd));rintro _ _ ⟨rfl,rfl⟩))<;>(try simp (disch:=omega) only [push_cast,seval,hno,hv,hvP,hlo,ne_eq,not_true_eq_false,decide_false,decide_true]))
 | (refine Ahz ⟨.inr rfl,_,rfl,?_⟩; (try simp (disch := omega) only [push_cast,seval,hno,hv,hvP,hlo,ne_eq,not_true_eq_false,decide_false,decide_true]))))
            all_goals (try simp)
          · have hlo':(o.length:Int) ≠ x.length:=by omega
            (repeat' (first
 | (first|refine Akz ?_|refine Aez ?_)
 | ((first|refine Alz ?_|refine Arz (mid:=l6r5a) (post:=l6r5b) Axz (by decide) ?_|refine Arz (mid:=l6r6a) (post:=l6r6b) Axz (by decide) ?_|refine Arz (mid:=l6r14a) (post:=l6r14b) Axz (by decide) ?_|refine Adz ?_|refine Afz ?_|refine Agz ?_);simp (disch:=omega) only [push_cast,seval,l6r0,l6r1,l6r2,l6r3,l6r4,l6r5a,l6r5b,l6r5,l6r6a,l6r6b,l6r6,l6r7,l6r8,l6r9,l6r10,l6r11,l6r12,l6r13,l6r14a,l6r14b,l6r14,hno,hv,hvP,hlo',ne_eq,not_false_eq_true,decide_true])
 | ((first|refine Aaz ?_ ?_|refine Acz ?_ ?_|refine Abz ?_ ?_)<;>intro h<;>(try simp only [h])<;>(try simp only [bitvec_to_nat] at h)<;>(try simp only [h])<;>(first|(exfalso;omega)|(exfalso;simp_all;done)|(simp (disch:=omega) only [push_cast,seval,hno,hv,hvP,hlo',ne_eq,not_false_eq_true,decide_true])|skip))
 | ((first|refine Apz false ?_|refine qcallD_of false ?_);simp (disch:=omega) only [push_cast,seval,hno,hv,hvP,hlo',ne_eq,not_false_eq_true,decide_true])
 | ((first|(refine call0D (BCall.ofP (Cmz _ _ ?_ ?_)) ?_;(iterate 2 (exact sd));rintro _ _ ⟨⟨x1,y1,o1,hxy,rfl⟩,rfl⟩)|((first|refine call0D (iTTo_ok _ _ _ _ _ _ ?_ ?_) ?_|refine qcall0D (BCall.ofP (plainT ((iTTo_ok _ _ _ _ _ _ ?_ ?_)))) ⟨_,_,rfl,rfl⟩ ?_);(iterate 2 (exact sd));rintro _ _ ⟨rfl,rfl⟩)|((first|refine call0D (sTT_ok _ _ _ _ _ _ ?_ ?_ ?_ ?_) ?_|refine qcall0D (BCall.ofP (plainT ((sTT_ok _ _ _ _ _ _ ?_ ?_ ?_ ?_)))) ⟨_,_,rfl,rfl⟩ ?_);(iterate 4 (exact sd));rintro _ _ ⟨rfl,rfl⟩)|((first|refine call0D (BCall.ofP (lequT_ok _ _ _ _ _ _ _ _ ?_ ?_)) ?_|refine qcall0D (BCall.ofP (lequT_ok _ _ _ _ _ _ _ _ ?_ ?_)) ⟨_,_,rfl,rfl⟩ ?_);(iterate 2 (exact sd));rintro _ _ ⟨rfl,rfl⟩)|((first|refine call0D (BCall.ofP (ivT_ok _ _ _ _ ?_ ?_ ?_)) ?_|refine qcall0D (BCall.ofP (ivT_ok _ _ _ _ ?_ ?_ ?_)) ⟨_,_,rfl,rfl⟩ ?_);(iterate 3 (exact sd));rintro _ _ ⟨rfl,rfl⟩)|((first|refine call0D (BCall.ofP (totalB_ok _ _ ?_ ?_)) ?_|refine qcall0D (BCall.ofP (totalB_ok _ _ ?_ ?_)) ⟨_,_,rfl,rfl⟩ ?_);(iterate 2 (exact sd));rintro _ _ ⟨rfl,rfl⟩))<;>(try simp (disch:=omega) only [push_cast,seval,hno,hv,hvP,hlo',ne_eq,not_false_eq_true,decide_true]))
 | (refine Ahz ⟨.inr rfl,_,rfl,?_⟩; (try simp (disch := omega) only [push_cast,seval,hno,hv,hvP,hlo',ne_eq,not_false_eq_true,decide_true]))))
            all_goals (try simp)
 | true =>
        rw [Bool.and_eq_true] at hvt
        obtain ⟨hv,hob⟩:=hvt
        have hO:=Gdz hob
        have hyes:=Giz (t:=(x,y)) hv hob
        have hvo:=Ifz (t:=(x,y)) hv hO
        have hbk:=turn_back (t:=(x,y)) hv hO
        have htot:=turn_total (t:=(x,y)) hv hO
        have hln:=turnT_len (t:=(x,y)) hv hO
        obtain ⟨hAo,hAp⟩:=agT_all hO
        have hob2:ordB (agT o x.length x.length) (turnT (x,y) o).1.length=true:=by rw [hln.1];exact ordB_of hAo
        have hyes2:=Giz hvo hob2
        simp only at hbk hln htot
        rw [hbk] at hyes2
        have hlo:=hO.1
        have hb1:=(B6z.1 hv).2.2
        have hb2:=(B6z.1 hvo).2.2
        simp only at hb1
        clear hbk hC
        generalize turnT (x,y) o=T at *
        obtain ⟨Q,R⟩:=T
        simp only at hln htot hb2
        obtain ⟨hl1,hl2,hl3⟩:=hln
        have q5:y.length ≤ 100 ∧ ∀ v ∈ y,-1000000 ≤ v ∧ v ≤ 1000000:=⟨by omega,hb1⟩
        have q6:R.length ≤ 100 ∧ ∀ v ∈ R,-1000000 ≤ v ∧ v ≤ 1000000:=⟨by omega,hb2⟩
        have hAl:=Cfz o x.length
        (repeat' (first
 | (first|refine Akz ?_|refine Aez ?_)
 | ((first|refine Alz ?_|refine Arz (mid:=l6r5a) (post:=l6r5b) Axz (by decide) ?_|refine Arz (mid:=l6r6a) (post:=l6r6b) Axz (by decide) ?_|refine Arz (mid:=l6r14a) (post:=l6r14b) Axz (by decide) ?_|refine Adz ?_|refine Afz ?_|refine Agz ?_);simp (disch:=omega) only [push_cast,seval,l6r0,l6r1,l6r2,l6r3,l6r4,l6r5a,l6r5b,l6r5,l6r6a,l6r6b,l6r6,l6r7,l6r8,l6r9,l6r10,l6r11,l6r12,l6r13,l6r14a,l6r14b,l6r14,hyes,hv,hvo,hlo,hl1,ne_eq,not_true_eq_false,decide_false,decide_true])
 | ((first|refine Aaz ?_ ?_|refine Acz ?_ ?_|refine Abz ?_ ?_)<;>intro h<;>(try simp only [h])<;>(try simp only [bitvec_to_nat] at h)<;>(try simp only [h])<;>(first|(exfalso;omega)|(exfalso;simp_all;done)|(simp (disch:=omega) only [push_cast,seval,hyes,hv,hvo,hlo,hl1,ne_eq,not_true_eq_false,decide_false,decide_true])|skip))
 | ((first|refine Apz false ?_|refine qcallD_of false ?_);simp (disch:=omega) only [push_cast,seval,hyes,hv,hvo,hlo,hl1,ne_eq,not_true_eq_false,decide_false,decide_true])
 | ((first|(refine call0D (BCall.ofP (Cmz _ _ ?_ ?_)) ?_;(iterate 2 (exact sd));rintro _ _ ⟨⟨x1,y1,o1,hxy,rfl⟩,rfl⟩)|((first|refine call0D (iTTo_ok _ _ _ _ _ _ ?_ ?_) ?_|refine qcall0D (BCall.ofP (plainT ((iTTo_ok _ _ _ _ _ _ ?_ ?_)))) ⟨_,_,rfl,rfl⟩ ?_);(iterate 2 (exact sd));rintro _ _ ⟨rfl,rfl⟩)|((first|refine call0D (sTT_ok _ _ _ _ _ _ ?_ ?_ ?_ ?_) ?_|refine qcall0D (BCall.ofP (plainT ((sTT_ok _ _ _ _ _ _ ?_ ?_ ?_ ?_)))) ⟨_,_,rfl,rfl⟩ ?_);(iterate 4 (exact sd));rintro _ _ ⟨rfl,rfl⟩)|((first|refine call0D (BCall.ofP (lequT_ok _ _ _ _ _ _ _ _ ?_ ?_)) ?_|refine qcall0D (BCall.ofP (lequT_ok _ _ _ _ _ _ _ _ ?_ ?_)) ⟨_,_,rfl,rfl⟩ ?_);(iterate 2 (exact sd));rintro _ _ ⟨rfl,rfl⟩)|((first|refine call0D (BCall.ofP (ivT_ok _ _ _ _ ?_ ?_ ?_)) ?_|refine qcall0D (BCall.ofP (ivT_ok _ _ _ _ ?_ ?_ ?_)) ⟨_,_,rfl,rfl⟩ ?_);(iterate 3 (exact sd));rintro _ _ ⟨rfl,rfl⟩)|((first|refine call0D (BCall.ofP (totalB_ok _ _ ?_ ?_)) ?_|refine qcall0D (BCall.ofP (totalB_ok _ _ ?_ ?_)) ⟨_,_,rfl,rfl⟩ ?_);(iterate 2 (exact sd));rintro _ _ ⟨rfl,rfl⟩))<;>(try simp (disch:=omega) only [push_cast,seval,hyes,hv,hvo,hlo,hl1,ne_eq,not_true_eq_false,decide_false,decide_true]))
 | (refine Ahz ⟨.inr rfl,_,rfl,?_⟩;(try simp (disch:=omega) only [push_cast,seval,hyes,hv,hvo,hlo,hl1,ne_eq,not_true_eq_false,decide_false,decide_true]))))
        have e0:List.replicate x.length (AV.int .i64 0)=IL (agT o x.length 0):=by rw [agT_zero];simp [IL]
        rw [e0]
        refine A1z (fun k:Nat=>mkS [(3,.ref 48 2 0),(4,.rows true (IL o) x.length),(5,.ref 80 2 0),(6,.own 928 x.length 1),(7,.int .i64 k)] [(928,IL (agT o x.length k)),(80,[.own 288 x.length 1,.own 289 R.length 1]),(288,IL Q),(289,IL R),(48,[.rows true (IL x) x.length,.rows true (IL y) y.length])]) (fun k=>k ≤ x.length) (fun k=>x.length - k) 0 (Nat.zero_le _) ?_ ?_
        · (refine Sub.of_lists ?_ ?_ ?_ ?_ ?_<;>simp [Vw.mkS,Vw.lk,Vw.hk,AV.inn,innL,Aqz,Anz,Asz,-List.map_set,-List.getD_eq_getElem?_getD])
        · intro k hk
          have hAk:=Cfz o x.length k
          by_cases hlt:k < x.length
          · have hx:=hO.2.1 _ (A2z (xs:=o) (j:=k) (by omega))
            obtain ⟨c,hc⟩:∃ c:Nat,o.getD k 0=c:=⟨(o.getD k 0).toNat,by omega⟩
            have hst:=agT_succ hO hlt hc
            rw [hc] at hx
            have hcx:c < x.length:=by omega
            generalize hA1:agT o x.length (k + 1)=A1 at *
            generalize agT o x.length k=A at *
            have hcn:decide ((c:Int) < 0)=false:=decide_eq_false (by omega)
            have hcl:decide ((x.length:Int) ≤ c)=false:=decide_eq_false (by omega)
            (repeat' (first
 | (first|refine Akz ?_|refine Aez ?_)
 | ((first|refine Alz ?_|refine Arz (mid:=l6r5a) (post:=l6r5b) Axz (by decide) ?_|refine Arz (mid:=l6r6a) (post:=l6r6b) Axz (by decide) ?_|refine Arz (mid:=l6r14a) (post:=l6r14b) Axz (by decide) ?_|refine Adz ?_|refine Afz ?_|refine Agz ?_);simp (disch:=omega) only [push_cast,seval,l6r0,l6r1,l6r2,l6r3,l6r4,l6r5a,l6r5b,l6r5,l6r6a,l6r6b,l6r6,l6r7,l6r8,l6r9,l6r10,l6r11,l6r12,l6r13,l6r14a,l6r14b,l6r14,hc,hlo,hAk,hcn,hcl])
 | ((first|refine Aaz ?_ ?_|refine Acz ?_ ?_|refine Abz ?_ ?_)<;>intro h<;>(try simp only [h])<;>(try simp only [bitvec_to_nat] at h)<;>(try simp only [h])<;>(first|(exfalso;omega)|(exfalso;simp_all;done)|(simp (disch:=omega) only [push_cast,seval,hc,hlo,hAk,hcn,hcl])|skip))
 | ((first|refine Apz false ?_|refine qcallD_of false ?_);simp (disch:=omega) only [push_cast,seval,hc,hlo,hAk,hcn,hcl])
 | ((first|(refine call0D (BCall.ofP (Cmz _ _ ?_ ?_)) ?_;(iterate 2 (exact sd));rintro _ _ ⟨⟨x1,y1,o1,hxy,rfl⟩,rfl⟩)|((first|refine call0D (iTTo_ok _ _ _ _ _ _ ?_ ?_) ?_|refine qcall0D (iTTo_ok _ _ _ _ _ _ ?_ ?_) ⟨_,_,rfl,rfl⟩ ?_);(iterate 2 (exact sd));rintro _ _ ⟨rfl,rfl⟩)|((first|refine call0D (sTT_ok _ _ _ _ _ _ ?_ ?_ ?_ ?_) ?_|refine qcall0D (sTT_ok _ _ _ _ _ _ ?_ ?_ ?_ ?_) ⟨_,_,rfl,rfl⟩ ?_);(iterate 4 (exact sd));rintro _ _ ⟨rfl,rfl⟩)|((first|refine call0D (BCall.ofP (lequT_ok _ _ _ _ _ _ _ _ ?_ ?_)) ?_|refine qcall0D (BCall.ofP (lequT_ok _ _ _ _ _ _ _ _ ?_ ?_)) ⟨_,_,rfl,rfl⟩ ?_);(iterate 2 (exact sd));rintro _ _ ⟨rfl,rfl⟩)|((first|refine call0D (BCall.ofP (ivT_ok _ _ _ _ ?_ ?_ ?_)) ?_|refine qcall0D (BCall.ofP (ivT_ok _ _ _ _ ?_ ?_ ?_)) ⟨_,_,rfl,rfl⟩ ?_);(iterate 3 (exact sd));rintro _ _ ⟨rfl,rfl⟩)|((first|refine call0D (BCall.ofP (totalB_ok _ _ ?_ ?_)) ?_|refine qcall0D (BCall.ofP (totalB_ok _ _ ?_ ?_)) ⟨_,_,rfl,rfl⟩ ?_);(iterate 2 (exact sd));rintro _ _ ⟨rfl,rfl⟩))<;>(try simp (disch:=omega) only [push_cast,seval,hc,hlo,hAk,hcn,hcl]))
 | (refine Ahz ⟨.inr rfl,_,rfl,?_⟩; (try simp (disch := omega) only [push_cast,seval,hc,hlo,hAk,hcn,hcl]))))
            refine ⟨k + 1,by omega,by omega,?_⟩
            (refine Sub.of_lists ?_ ?_ ?_ ?_ ?_<;>simp [Vw.mkS,Vw.lk,Vw.hk,AV.inn,innL,Aqz,Anz,Asz,-List.map_set,-List.getD_eq_getElem?_getD,hA1,hst,Byz])
          · have hk2:k=x.length:=by omega
            subst hk2
            generalize agT o x.length x.length=A at *
            have q9:((Q.length=x.length ∧ R.length=R.length) ∧ A.length=x.length):=⟨⟨hl1,rfl⟩,hAk⟩
            (repeat' (first
 | (first|refine Akz ?_|refine Aez ?_)
 | ((first|refine Alz ?_|refine Arz (mid:=l6r5a) (post:=l6r5b) Axz (by decide) ?_|refine Arz (mid:=l6r6a) (post:=l6r6b) Axz (by decide) ?_|refine Arz (mid:=l6r14a) (post:=l6r14b) Axz (by decide) ?_|refine Adz ?_|refine Afz ?_|refine Agz ?_);simp (disch:=omega) only [push_cast,seval,l6r0,l6r1,l6r2,l6r3,l6r4,l6r5a,l6r5b,l6r5,l6r6a,l6r6b,l6r6,l6r7,l6r8,l6r9,l6r10,l6r11,l6r12,l6r13,l6r14a,l6r14b,l6r14,hyes2,htot,hlo,hl1,hAk,decide_true])
 | ((first|refine Aaz ?_ ?_|refine Acz ?_ ?_|refine Abz ?_ ?_)<;>intro h<;>(try simp only [h])<;>(try simp only [bitvec_to_nat] at h)<;>(try simp only [h])<;>(first|(exfalso;omega)|(exfalso;simp_all;done)|(simp (disch:=omega) only [push_cast,seval,hyes2,htot,hlo,hl1,hAk,decide_true])|skip))
 | ((first|refine Apz false ?_|refine qcallD_of false ?_);simp (disch:=omega) only [push_cast,seval,hyes2,htot,hlo,hl1,hAk,decide_true])
 | ((first|(refine call0D (BCall.ofP (Cmz _ _ ?_ ?_)) ?_;(iterate 2 (exact sd));rintro _ _ ⟨⟨x1,y1,o1,hxy,rfl⟩,rfl⟩)|((first|refine call0D (iTTo_ok _ _ _ _ _ _ ?_ ?_) ?_|refine qcall0D (BCall.ofP (plainT ((iTTo_ok _ _ _ _ _ _ ?_ ?_)))) ⟨_,_,rfl,rfl⟩ ?_);(iterate 2 (exact sd));rintro _ _ ⟨rfl,rfl⟩)|((first|refine call0D (sTT_ok _ _ _ _ _ _ ?_ ?_ ?_ ?_) ?_|refine qcall0D (sTT_ok _ _ _ _ _ _ ?_ ?_ ?_ ?_) ⟨_,_,rfl,rfl⟩ ?_);(iterate 4 (exact sd));rintro _ _ ⟨rfl,rfl⟩)|((first|refine call0D (BCall.ofP (lequT_ok _ _ _ _ _ _ _ _ ?_ ?_)) ?_|refine qcall0D (BCall.ofP (lequT_ok _ _ _ _ _ _ _ _ ?_ ?_)) ⟨_,_,rfl,rfl⟩ ?_);(iterate 2 (exact sd));rintro _ _ ⟨rfl,rfl⟩)|((first|refine call0D (BCall.ofP (ivT_ok _ _ _ _ ?_ ?_ ?_)) ?_|refine qcall0D (BCall.ofP (ivT_ok _ _ _ _ ?_ ?_ ?_)) ⟨_,_,rfl,rfl⟩ ?_);(iterate 3 (exact sd));rintro _ _ ⟨rfl,rfl⟩)|((first|refine call0D (BCall.ofP (totalB_ok _ _ ?_ ?_)) ?_|refine qcall0D (BCall.ofP (totalB_ok _ _ ?_ ?_)) ⟨_,_,rfl,rfl⟩ ?_);(iterate 2 (exact sd));rintro _ _ ⟨rfl,rfl⟩))<;>(try simp (disch:=omega) only [push_cast,seval,hyes2,htot,hlo,hl1,hAk,decide_true]))
 | (refine Ahz ⟨.inr rfl,_,rfl,?_⟩; (try simp (disch := omega) only [push_cast,seval,hyes2,htot,hlo,hl1,hAk,decide_true]))))
            all_goals (try simp)
  · (repeat' (first
 | (first|refine Akz ?_|refine Aez ?_)
 | ((first|refine Alz ?_|refine Arz (mid:=l6r5a) (post:=l6r5b) Axz (by decide) ?_|refine Arz (mid:=l6r6a) (post:=l6r6b) Axz (by decide) ?_|refine Arz (mid:=l6r14a) (post:=l6r14b) Axz (by decide) ?_|refine Adz ?_|refine Afz ?_|refine Agz ?_);simp (disch:=omega) only [push_cast,seval,l6r0,l6r1,l6r2,l6r3,l6r4,l6r5a,l6r5b,l6r5,l6r6a,l6r6b,l6r6,l6r7,l6r8,l6r9,l6r10,l6r11,l6r12,l6r13,l6r14a,l6r14b,l6r14])
 | ((first|refine Aaz ?_ ?_|refine Acz ?_ ?_|refine Abz ?_ ?_)<;>intro h<;>(try simp only [h])<;>(try simp only [bitvec_to_nat] at h)<;>(try simp only [h])<;>(first|(exfalso;omega)|(exfalso;simp_all;done)|(simp (disch:=omega) only [push_cast,seval])|skip))
 | ((first|refine Apz false ?_|refine qcallD_of false ?_);simp (disch:=omega) only [push_cast,seval])
 | ((first|(refine call0D (BCall.ofP (Cmz _ _ ?_ ?_)) ?_;(iterate 2 (exact sd));rintro _ _ ⟨⟨x1,y1,o1,hxy,rfl⟩,rfl⟩)|((first|refine call0D (iTTo_ok _ _ _ _ _ _ ?_ ?_) ?_|refine qcall0D (iTTo_ok _ _ _ _ _ _ ?_ ?_) ⟨_,_,rfl,rfl⟩ ?_);(iterate 2 (exact sd));rintro _ _ ⟨rfl,rfl⟩)|((first|refine call0D (sTT_ok _ _ _ _ _ _ ?_ ?_ ?_ ?_) ?_|refine qcall0D (sTT_ok _ _ _ _ _ _ ?_ ?_ ?_ ?_) ⟨_,_,rfl,rfl⟩ ?_);(iterate 4 (exact sd));rintro _ _ ⟨rfl,rfl⟩)|((first|refine call0D (BCall.ofP (lequT_ok _ _ _ _ _ _ _ _ ?_ ?_)) ?_|refine qcall0D (BCall.ofP (lequT_ok _ _ _ _ _ _ _ _ ?_ ?_)) ⟨_,_,rfl,rfl⟩ ?_);(iterate 2 (exact sd));rintro _ _ ⟨rfl,rfl⟩)|((first|refine call0D (BCall.ofP (ivT_ok _ _ _ _ ?_ ?_ ?_)) ?_|refine qcall0D (BCall.ofP (ivT_ok _ _ _ _ ?_ ?_ ?_)) ⟨_,_,rfl,rfl⟩ ?_);(iterate 3 (exact sd));rintro _ _ ⟨rfl,rfl⟩)|((first|refine call0D (BCall.ofP (totalB_ok _ _ ?_ ?_)) ?_|refine qcall0D (BCall.ofP (totalB_ok _ _ ?_ ?_)) ⟨_,_,rfl,rfl⟩ ?_);(iterate 2 (exact sd));rintro _ _ ⟨rfl,rfl⟩))<;>(try simp (disch:=omega) only [push_cast,seval]))
 | (refine Ahz ⟨.inr rfl,_,rfl,?_⟩;(try simp (disch:=omega) only [push_cast,seval]))))

end Go.Proofs.Ytfmogaimamphdaa
