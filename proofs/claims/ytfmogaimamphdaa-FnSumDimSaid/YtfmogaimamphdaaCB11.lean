/- Texts of this verifier. -/
import Derived.Test.YtfmogaimamphdaaCB10
import Derived.Test.YtfmogaimamphdaaCM1
import Derived.Test.YtfmogaimamphdaaCW3
set_option linter.unusedSimpArgs false
set_option linter.unusedVariables false
set_option maxRecDepth 4000
set_option maxHeartbeats 4000000
namespace Go.Proofs.Ytfmogaimamphdaa
open VwM Vw Go

def dbl (y:List Int) (k:Nat):List Int:=(y.take k).map (fun v=>2 * v) ++ y.drop k
end Go.Proofs.Ytfmogaimamphdaa
set_option linter.unusedSimpArgs false
set_option linter.unusedVariables false
set_option maxRecDepth 4000
set_option maxHeartbeats 4000000
namespace Go.Proofs.Ytfmogaimamphdaa
open VwM Vw Go

theorem good2 {a b:Int} (ha:0 ≤ a ∧ a ≤ 4) (hb:0 ≤ b ∧ b ≤ 4):good4 [a,b] ∧ pr [a,b] ≤ 60 ∧ 0 ≤ pr [a,b]:=by
  have hp:pr [a,b]=a * b:=by simp [pr]
  have h1:0 ≤ a * b:=Int.mul_nonneg ha.1 hb.1
  have h2:a * b ≤ 4 * 4:=Int.mul_le_mul ha.2 hb.2 hb.1 (by omega)
  exact ⟨⟨fun x hx=>by simp only [List.mem_cons,List.not_mem_nil,or_false] at hx;omega,by simp⟩,by omega,by omega⟩


theorem F0z (bs:List Int) (p:Int) (a b:Int) (hb:okB bs) (hp:0 ≤ p ∧ p ≤ 900000) (hab:(0 ≤ a ∧ a ≤ 4) ∧ 0 ≤ b ∧ b ≤ 4):BCall Try.prog 34 [.ref 0 2 0,.own 1 2 1] [RD bs p,[.int .i64 a,.int .i64 b]] (fun r H'=>∃ (y:List Int) (q:Int),y.length ≤ 61 ∧ (p ≤ q ∧ q ≤ p + 60) ∧ r=.agg [.own 2 2 1,.own 3 y.length 1] ∧ H'=[RD bs q,IL [a,b],IL [a,b],IL y]):=by
  obtain ⟨g1,g2,g3⟩:=good2 hab.1 hab.2
  refine (Ggz bs p [a,b] 2 rfl hb ⟨hp,g1,g2⟩).mono ?_
  rintro r H' ⟨y,q,⟨h1,h2⟩,hq,hr,hH⟩
  exact ⟨y,q,by omega,hq,hr,hH⟩


set_option maxHeartbeats 8000000 in
theorem drawTrB_ok (bs:List Int) (n:Nat) (hn:bs.length=n) (hb:n ≤ 1099511627776 ∧ ∀ x ∈ bs,0 ≤ x ∧ x ≤ 255):BCall Try.prog 12 [.rows false (UL bs) n] [] (fun r H'=>∃ x y,(x.length ≤ 5 ∧ y.length ≤ 61) ∧ OT x y r H'):=by
  refine A1z (pins:=[]) (pin:=0) l12_eq rfl rfl rfl ?_
  (repeat' (first
 | (first|refine Alz ?_|refine Aez ?_)
 | ((first|refine Amz ?_|refine Adz ?_|refine Agz ?_|refine Ahz ?_);simp (disch:=omega) only [push_cast,seval,l12r0,l12r1,l12r2,l12r3,l12r4,l12r5])
 | ((first|refine Aaz ?_ ?_|refine Acz ?_ ?_|refine Abz ?_ ?_)<;>intro h<;>(try simp only [h])<;>(try simp only [bitvec_to_nat] at h)<;>(try simp only [h])<;>(first|(exfalso;omega)|(exfalso;simp_all;done)|(simp (disch:=omega) only [push_cast,seval])|skip))
 | ((first|((with_reducible refine Aqz (f:=25) true ?_);simp (disch:=omega) only [push_cast,seval];(refine call0D (Dzz _ _ ?_ ?_) ?_;(iterate 2 (exact sd));rintro _ _ ⟨bs0,hbs0,rfl,rfl⟩))|((with_reducible refine callD_ids (f:=31) [96] true ?_);simp (disch:=omega) only [push_cast,seval];(refine B9z (id:=96) (Bsz _ _ _ ?_ ?_) (by (simp (disch:=omega) only [push_cast,seval])<;>rfl) ?_;(iterate 2 (exact sd));rintro _ _ ⟨x,hx0,hx1,rfl,rfl⟩))|((with_reducible refine qcallI_of (f:=31) [96] true ?_);simp (disch:=omega) only [push_cast,seval];(refine B3z (id:=96) (Bsz _ _ _ ?_ ?_) (by (simp (disch:=omega) only [push_cast,seval])<;>rfl) (by decide) ⟨_,_,0,by omega,Or.inr (Or.inr rfl),rfl,rfl⟩ ?_;(iterate 2 (exact sd));rintro _ _ ⟨x,hx0,hx1,rfl,rfl⟩))|((with_reducible refine callD_ids (f:=32) [96] true ?_);simp (disch:=omega) only [push_cast,seval];(refine B9z (id:=96) (Djz _ _ ?_ ?_) (by (simp (disch:=omega) only [push_cast,seval])<;>rfl) ?_;(iterate 2 (exact sd));rintro _ _ ⟨x1,y1,q,⟨⟨hx1,hx2⟩,hy1,hy2⟩,hq,rfl,rfl⟩))|((with_reducible refine callD_ids (f:=33) (args:=[Operand.tmp 12,Operand.tmp 13]) [96,208] true ?_);simp (disch:=omega) only [push_cast,seval];(refine Cyz (id:=96) (id':=208) (by decide) (Dyz _ _ _ _ ?_ ?_ ?_ ?_ ?_) (by (simp (disch:=omega) only [push_cast,seval])<;>rfl) (by (simp (disch:=omega) only [push_cast,seval])<;>rfl) ?_;(iterate 5 (exact sd));rintro _ _ ⟨x,hx,hx0,rfl,rfl⟩))|((with_reducible refine callD_ids (f:=33) [96] true ?_);simp (disch:=omega) only [push_cast,seval];(refine B9z (id:=96) (Coz _ _ _ _ ?_ ?_ ?_ ?_ ?_) (by (simp (disch:=omega) only [push_cast,seval])<;>rfl) ?_;(iterate 5 (exact sd));rintro _ _ ⟨x,hx,hx0,rfl,rfl⟩))|((with_reducible refine qcallI_of (f:=33) [96] true ?_);simp (disch:=omega) only [push_cast,seval];(refine B3z (id:=96) (Coz _ _ _ _ ?_ ?_ ?_ ?_ ?_) (by (simp (disch:=omega) only [push_cast,seval])<;>rfl) (by decide) (by simp only [Crz,Diz];exact ⟨_,_,_,List.mem_cons_self,by omega,rfl,rfl⟩) ?_;(iterate 5 (exact sd));rintro _ _ ⟨x,hx,hx0,rfl,rfl⟩))|((with_reducible refine callD_ids (f:=34) (args:=[Operand.tmp 15,Operand.tmp 18]) [96,288] true ?_);simp (disch:=omega) only [push_cast,seval];(refine Cyz (id:=96) (id':=288) (by decide) (F0z _ _ _ _ ?_ ?_ ?_) (by (simp (disch:=omega) only [push_cast,seval])<;>rfl) (by (simp (disch:=omega) only [push_cast,seval])<;>rfl) ?_;(iterate 3 (exact sd));rintro _ _ ⟨y,q,hy1,hq,rfl,rfl⟩)))<;>(try simp (disch:=omega) only [push_cast,seval]))))
  · (refine Aiz ⟨.inr rfl,[176,177],[],_,by decide,rfl,?_⟩;(try simp (disch:=omega) only [push_cast,seval,↓Anz,↓Ajz,↓List.map_cons,↓List.map_nil]))
    exact ⟨x1,y1,⟨hx1,hy1⟩,rfl,rfl⟩
  · (refine Aiz ⟨.inr rfl,[304,305],[],_,by decide,rfl,?_⟩;(try simp (disch:=omega) only [push_cast,seval,↓Anz,↓Ajz,↓List.map_cons,↓List.map_nil]))
    exact ⟨[x,x],y,⟨by simp,hy1⟩,rfl,rfl⟩
theorem Dez (bs:List Int) (n:Nat) (hn:bs.length=n) (hb:n ≤ 1099511627776 ∧ ∀ x ∈ bs,0 ≤ x ∧ x ≤ 255):PCall Try.prog 12 [.rows false (UL bs) n] (fun r=>∃ x y,(x.length ≤ 5 ∧ y.length ≤ 61) ∧ r=.agg [.rows true (IL x) x.length,.rows true (IL y) y.length]):=by
  refine (BCall.plain (drawTrB_ok bs n hn hb)).mono ?_
  rintro r ⟨r0,H',⟨x,y,h1,rfl,rfl⟩,rfl⟩
  refine ⟨x,y,h1,?_⟩
  simp [AV.ren,nthH,List.map_map,Function.comp_def]


set_option maxHeartbeats 16000000 in
theorem matr_ok (bs:List Int) (p:Int) (hb:okB bs) (hp:0 ≤ p ∧ p ≤ 600000):BCall Try.prog 24 [.ref 0 2 0] [RD bs p] (fun r H'=>∃ x1 y1 x2 y2 q,((x1.length ≤ 5 ∧ y1.length ≤ 61) ∧ x2.length ≤ 5 ∧ y2.length ≤ 61) ∧ (p ≤ q ∧ q ≤ p + 1000) ∧ r=.tup [.agg [.own 1 x1.length 1,.own 2 y1.length 1],.agg [.own 3 x2.length 1,.own 4 y2.length 1]] ∧ H'=[RD bs q,IL x1,IL y1,IL x2,IL y2]):=by
  refine A1z (pins:=[0]) (pin:=1) l24_eq rfl rfl rfl ?_
  (repeat' (first
 | (first|refine Alz ?_|refine Aez ?_)
 | ((first|refine Amz ?_|refine Bez (mid:=l24r8a) (post:=l24r8b) [32] Awz (by decide) ?_|refine Adz ?_|refine Agz ?_|refine Ahz ?_);simp (disch:=omega) only [push_cast,seval,l24r0,l24r1,l24r2,l24r3,l24r4,l24r5,l24r6,l24r7,l24r8a,l24r8b,l24r8])
 | ((first|refine Aaz ?_ ?_|refine Acz ?_ ?_|refine Abz ?_ ?_)<;>intro h<;>(try simp only [h])<;>(try simp only [bitvec_to_nat] at h)<;>(try simp only [h])<;>(first|(exfalso;omega)|(exfalso;simp_all;done)|(simp (disch:=omega) only [push_cast,seval])|skip))
 | ((first|((with_reducible refine callD_ids (f:=33) (args:=[Operand.tmp 9,Operand.tmp 10]) [0,160] true ?_);simp (disch:=omega) only [push_cast,seval];(refine Cyz (id:=0) (id':=160) (by decide) (Dyz _ _ _ _ ?_ ?_ ?_ ?_ ?_) (by (simp (disch:=omega) only [push_cast,seval])<;>rfl) (by (simp (disch:=omega) only [push_cast,seval])<;>rfl) ?_;(iterate 5 (exact sd));rintro _ _ ⟨x,hx,hx0,rfl,rfl⟩))|((with_reducible refine callD_ids (f:=33) (args:=[Operand.tmp 12,Operand.tmp 13]) [0,208] true ?_);simp (disch:=omega) only [push_cast,seval];(refine Cyz (id:=0) (id':=208) (by decide) (Dyz _ _ _ _ ?_ ?_ ?_ ?_ ?_) (by (simp (disch:=omega) only [push_cast,seval])<;>rfl) (by (simp (disch:=omega) only [push_cast,seval])<;>rfl) ?_;(iterate 5 (exact sd));rintro _ _ ⟨x,hx,hx0,rfl,rfl⟩))|((with_reducible refine callD_ids (f:=33) (args:=[Operand.tmp 15,Operand.tmp 16]) [0,256] true ?_);simp (disch:=omega) only [push_cast,seval];(refine Cyz (id:=0) (id':=256) (by decide) (Dyz _ _ _ _ ?_ ?_ ?_ ?_ ?_) (by (simp (disch:=omega) only [push_cast,seval])<;>rfl) (by (simp (disch:=omega) only [push_cast,seval])<;>rfl) ?_;(iterate 5 (exact sd));rintro _ _ ⟨x,hx,hx0,rfl,rfl⟩))|((with_reducible refine callD_ids (f:=33) [0] true ?_);simp (disch:=omega) only [push_cast,seval];(refine B9z (id:=0) (Coz _ _ _ _ ?_ ?_ ?_ ?_ ?_) (by (simp (disch:=omega) only [push_cast,seval])<;>rfl) ?_;(iterate 5 (exact sd));rintro _ _ ⟨x,hx,hx0,rfl,rfl⟩))|((with_reducible refine qcallI_of (f:=33) [0] true ?_);simp (disch:=omega) only [push_cast,seval];(refine B3z (id:=0) (Coz _ _ _ _ ?_ ?_ ?_ ?_ ?_) (by (simp (disch:=omega) only [push_cast,seval])<;>rfl) (by decide) (by simp only [Crz,Diz];exact ⟨_,_,_,List.mem_cons_self,by omega,rfl,rfl⟩) ?_;(iterate 5 (exact sd));rintro _ _ ⟨x,hx,hx0,rfl,rfl⟩))|((with_reducible refine callD_ids (f:=34) (args:=[Operand.tmp 18,Operand.tmp 21]) [0,336] true ?_);simp (disch:=omega) only [push_cast,seval];(refine Cyz (id:=0) (id':=336) (by decide) (F0z _ _ _ _ ?_ ?_ ?_) (by (simp (disch:=omega) only [push_cast,seval])<;>rfl) (by (simp (disch:=omega) only [push_cast,seval])<;>rfl) ?_;(iterate 3 (exact sd));rintro _ _ ⟨y,q,hy1,hq,rfl,rfl⟩))|((with_reducible refine callD_ids (f:=34) (args:=[Operand.tmp 23,Operand.tmp 26]) [0,416] true ?_);simp (disch:=omega) only [push_cast,seval];(refine Cyz (id:=0) (id':=416) (by decide) (F0z _ _ _ _ ?_ ?_ ?_) (by (simp (disch:=omega) only [push_cast,seval])<;>rfl) (by (simp (disch:=omega) only [push_cast,seval])<;>rfl) ?_;(iterate 3 (exact sd));rintro _ _ ⟨y,q,hy1,hq,rfl,rfl⟩))|((with_reducible refine callD_ids (f:=31) [0] true ?_);simp (disch:=omega) only [push_cast,seval];(refine B9z (id:=0) (Bsz _ _ _ ?_ ?_) (by (simp (disch:=omega) only [push_cast,seval])<;>rfl) ?_;(iterate 2 (exact sd));rintro _ _ ⟨x,hx0,hx1,rfl,rfl⟩))|((with_reducible refine qcallI_of (f:=31) [0] true ?_);simp (disch:=omega) only [push_cast,seval];(refine B3z (id:=0) (Bsz _ _ _ ?_ ?_) (by (simp (disch:=omega) only [push_cast,seval])<;>rfl) (by decide) ⟨_,_,0,by omega,Or.inr (Or.inr rfl),rfl,rfl⟩ ?_;(iterate 2 (exact sd));rintro _ _ ⟨x,hx0,hx1,rfl,rfl⟩))|((with_reducible refine callD_ids (f:=32) [0] true ?_);simp (disch:=omega) only [push_cast,seval];(refine B9z (id:=0) (Djz _ _ ?_ ?_) (by (simp (disch:=omega) only [push_cast,seval])<;>rfl) ?_;(iterate 2 (exact sd));rintro _ _ ⟨x1,y1,q,⟨⟨hx1,hx2⟩,hy1,hy2⟩,hq,rfl,rfl⟩)))<;>(try simp (disch:=omega) only [push_cast,seval]))))
  · (refine Aiz ⟨.inr rfl,[352,353,512,513],[],_,by decide,rfl,?_⟩;(try simp (disch:=omega) only [push_cast,seval,↓Anz,↓Ajz,↓List.map_cons,↓List.map_nil]))
    exact ⟨[_,_],_,x1,y1,q,⟨⟨by simp,by assumption⟩,hx1,hy1⟩,by omega,rfl,rfl⟩
  · (refine Aiz ⟨.inr rfl,[352,353,432,433],[],_,by decide,rfl,?_⟩;(try simp (disch:=omega) only [push_cast,seval,↓Anz,↓Ajz,↓List.map_cons,↓List.map_nil]))
    exact ⟨[_,_],_,[_,_],y,q + 1,⟨⟨by simp,by assumption⟩,by simp,hy1⟩,by omega,rfl,rfl⟩


set_option maxHeartbeats 8000000 in
theorem drawMMB_ok (bs:List Int) (n:Nat) (hn:bs.length=n) (hb:n ≤ 1099511627776 ∧ ∀ x ∈ bs,0 ≤ x ∧ x ≤ 255):BCall Try.prog 7 [.rows false (UL bs) n] [] (fun r H'=>∃ (x1 y1 x2 y2:List Int),((x1.length ≤ 5 ∧ y1.length ≤ 61) ∧ x2.length ≤ 5 ∧ y2.length ≤ 61) ∧ r=.tup [.agg [.own 0 x1.length 1,.own 1 y1.length 1],.agg [.own 2 x2.length 1,.own 3 y2.length 1]] ∧ H'=[IL x1,IL y1,IL x2,IL y2]):=by
  refine A1z (pins:=[]) (pin:=0) l7_eq rfl rfl rfl ?_
  (repeat' (first
 | (first|refine Alz ?_|refine Aez ?_)
 | ((first|refine Amz ?_|refine Adz ?_|refine Agz ?_|refine Ahz ?_);simp (disch:=omega) only [push_cast,seval,l7r0,l7r1])
 | ((first|refine Aaz ?_ ?_|refine Acz ?_ ?_|refine Abz ?_ ?_)<;>intro h<;>(try simp only [h])<;>(try simp only [bitvec_to_nat] at h)<;>(try simp only [h])<;>(first|(exfalso;omega)|(exfalso;simp_all;done)|(simp (disch:=omega) only [push_cast,seval])|skip))
 | ((first|((with_reducible refine Aqz (f:=25) true ?_);simp (disch:=omega) only [push_cast,seval];(refine call0D (Dzz _ _ ?_ ?_) ?_;(iterate 2 (exact sd));rintro _ _ ⟨bs0,hbs0,rfl,rfl⟩))|((with_reducible refine callD_ids (f:=24) [80] true ?_);simp (disch:=omega) only [push_cast,seval];(refine B9z (id:=80) (matr_ok _ _ ?_ ?_) (by (simp (disch:=omega) only [push_cast,seval])<;>rfl) ?_;(iterate 2 (exact sd));rintro _ _ ⟨x1,y1,x2,y2,q,hxy,hq,rfl,rfl⟩)))<;>(try simp (disch:=omega) only [push_cast,seval]))))
  all_goals ((refine Aiz ⟨.inr rfl,[96,97,98,99],[],_,by decide,rfl,?_⟩;(try simp (disch:=omega) only [push_cast,seval,↓Anz,↓Ajz,↓List.map_cons,↓List.map_nil]));exact ⟨x1,y1,x2,y2,hxy,rfl,rfl⟩)
theorem Fsz (bs:List Int) (n:Nat) (hn:bs.length=n) (hb:n ≤ 1099511627776 ∧ ∀ x ∈ bs,0 ≤ x ∧ x ≤ 255):PCall Try.prog 7 [.rows false (UL bs) n] (fun r=>∃ (x1 y1 x2 y2:List Int),((x1.length ≤ 5 ∧ y1.length ≤ 61) ∧ x2.length ≤ 5 ∧ y2.length ≤ 61) ∧ r=.tup [.agg [.rows true (IL x1) x1.length,.rows true (IL y1) y1.length],.agg [.rows true (IL x2) x2.length,.rows true (IL y2) y2.length]]):=by
  refine (BCall.plain (drawMMB_ok bs n hn hb)).mono ?_
  rintro r ⟨r0,H',⟨x1,y1,x2,y2,h1,rfl,rfl⟩,rfl⟩
  refine ⟨x1,y1,x2,y2,h1,?_⟩
  simp [AV.ren,nthH,List.map_map,Function.comp_def]


set_option maxHeartbeats 8000000 in
theorem drawSDB_ok (bs:List Int) (n:Nat) (hn:bs.length=n) (hb:n ≤ 1099511627776 ∧ ∀ x ∈ bs,0 ≤ x ∧ x ≤ 255):BCall Try.prog 15 [.rows false (UL bs) n] [] (fun r H'=>∃ (x y:List Int) (d:Int),(x.length ≤ 5 ∧ y.length ≤ 61) ∧ r=.tup [.agg [.own 0 x.length 1,.own 1 y.length 1],.int .i64 d] ∧ H'=[IL x,IL y]):=by
  refine A1z (pins:=[]) (pin:=0) l15_eq rfl rfl rfl ?_
  (repeat' (first
 | (first|refine Alz ?_|refine Aez ?_)
 | ((first|refine Amz ?_|refine Bez (mid:=l15r3a) (post:=l15r3b) [112] Awz (by decide) ?_|refine Adz ?_|refine Agz ?_|refine Ahz ?_);simp (disch:=omega) only [push_cast,seval,l15r0,l15r1,l15r2,l15r3a,l15r3b,l15r3])
 | ((first|refine Aaz ?_ ?_|refine Acz ?_ ?_|refine Abz ?_ ?_)<;>intro h<;>(try simp only [h])<;>(try simp only [bitvec_to_nat] at h)<;>(try simp only [h])<;>(first|(exfalso;omega)|(exfalso;simp_all;done)|(simp (disch:=omega) only [push_cast,seval])|skip))
 | ((first|((with_reducible refine Aqz (f:=25) true ?_);simp (disch:=omega) only [push_cast,seval];(refine call0D (Dzz _ _ ?_ ?_) ?_;(iterate 2 (exact sd));rintro _ _ ⟨bs0,hbs0,rfl,rfl⟩))|((with_reducible refine callD_ids (f:=32) [112] true ?_);simp (disch:=omega) only [push_cast,seval];(refine B9z (id:=112) (Djz _ _ ?_ ?_) (by (simp (disch:=omega) only [push_cast,seval])<;>rfl) ?_;(iterate 2 (exact sd));rintro _ _ ⟨x1,y1,q,⟨⟨hx1,hx2⟩,hy1,hy2⟩,hq,rfl,rfl⟩))|((with_reducible refine callD_ids (f:=31) [112] true ?_);simp (disch:=omega) only [push_cast,seval];(refine B9z (id:=112) (Bsz _ _ _ ?_ ?_) (by (simp (disch:=omega) only [push_cast,seval])<;>rfl) ?_;(iterate 2 (exact sd));rintro _ _ ⟨x,hx0,hx1,rfl,rfl⟩))|((with_reducible refine qcallI_of (f:=31) [112] true ?_);simp (disch:=omega) only [push_cast,seval];(refine B3z (id:=112) (Bsz _ _ _ ?_ ?_) (by (simp (disch:=omega) only [push_cast,seval])<;>rfl) (by decide) ⟨_,_,0,by omega,Or.inr (Or.inr rfl),rfl,rfl⟩ ?_;(iterate 2 (exact sd));rintro _ _ ⟨x,hx0,hx1,rfl,rfl⟩))|((with_reducible refine callD_ids (f:=33) (args:=[Operand.tmp 11,Operand.tmp 18]) [112,288] true ?_);simp (disch:=omega) only [push_cast,seval];(refine Cyz (id:=112) (id':=288) (by decide) (Dyz _ _ _ _ ?_ ?_ ?_ ?_ ?_) (by (simp (disch:=omega) only [push_cast,seval])<;>rfl) (by (simp (disch:=omega) only [push_cast,seval])<;>rfl) ?_;(iterate 5 (exact sd));rintro _ _ ⟨x,hx,hx0,rfl,rfl⟩))|((with_reducible refine callD_ids (f:=33) [112] true ?_);simp (disch:=omega) only [push_cast,seval];(refine B9z (id:=112) (Coz _ _ _ _ ?_ ?_ ?_ ?_ ?_) (by (simp (disch:=omega) only [push_cast,seval])<;>rfl) ?_;(iterate 5 (exact sd));rintro _ _ ⟨x,hx,hx0,rfl,rfl⟩))|((with_reducible refine qcallI_of (f:=33) [112] true ?_);simp (disch:=omega) only [push_cast,seval];(refine B3z (id:=112) (Coz _ _ _ _ ?_ ?_ ?_ ?_ ?_) (by (simp (disch:=omega) only [push_cast,seval])<;>rfl) (by decide) (by simp only [Crz,Diz];exact ⟨_,_,_,List.mem_cons_self,by omega,rfl,rfl⟩) ?_;(iterate 5 (exact sd));rintro _ _ ⟨x,hx,hx0,rfl,rfl⟩)))<;>(try simp (disch:=omega) only [push_cast,seval]))))
  all_goals ((refine Aiz ⟨.inr rfl,[144,145],[],_,by decide,rfl,?_⟩;(try simp (disch:=omega) only [push_cast,seval,↓Anz,↓Ajz,↓List.map_cons,↓List.map_nil]));exact ⟨x1,y1,_,⟨by assumption,hy1⟩,rfl,rfl⟩)
theorem Frz (bs:List Int) (n:Nat) (hn:bs.length=n) (hb:n ≤ 1099511627776 ∧ ∀ x ∈ bs,0 ≤ x ∧ x ≤ 255):PCall Try.prog 15 [.rows false (UL bs) n] (fun r=>∃ (x y:List Int) (d:Int),(x.length ≤ 5 ∧ y.length ≤ 61) ∧ r=.tup [.agg [.rows true (IL x) x.length,.rows true (IL y) y.length],.int .i64 d]):=by
  refine (BCall.plain (drawSDB_ok bs n hn hb)).mono ?_
  rintro r ⟨r0,H',⟨x,y,d,h1,rfl,rfl⟩,rfl⟩
  refine ⟨x,y,d,h1,?_⟩
  simp [AV.ren,nthH,List.map_map,Function.comp_def]

end Go.Proofs.Ytfmogaimamphdaa
set_option linter.unusedSimpArgs false
set_option linter.unusedVariables false
set_option maxRecDepth 4000
set_option maxHeartbeats 4000000
namespace Go.Proofs.Ytfmogaimamphdaa
open VwM Vw Go

/-- A turned tensor with turned labels is at each way what the tensor is. -/
theorem turn_tv {t:Tn} {l order w:List Int} (hs:vSh t.1=true) (hl:l.length=t.1.length) (ho:isOrd order t.1.length) (hw:∀ j,j < l.length → 0 ≤ gE w (l.getD j 0) ∧ gE w (l.getD j 0) < t.1.getD j 0):tv (turnT t order) (permL l order) w=tv t l w:=by
  have hvs:=Gpz (B7z ho) hs
  have hlo:isOrd order l.length:=by rw [hl];exact ho
  have hpl:(permL l order).length=(permL t.1 order).length:=by rw [A8z,A8z]
  have hfit:∀ j,j < (permL l order).length → 0 ≤ gE w ((permL l order).getD j 0) ∧ gE w ((permL l order).getD j 0) < (permL t.1 order).getD j 0:=fun j hj=>by
    rw [A8z] at hj
    rw [B8z _ _ hj,B8z _ _ hj]
    have hx:=ho.2.1 _ (A2z hj)
    exact hw _ (by omega)
  obtain ⟨hvi,hdt⟩:=map_ix hpl hfit
  have hur:=unr_rank hvs hvi
  unfold rankD at hur
  rw [if_pos ⟨hvs,hvi⟩,hdt] at hur
  unfold tv turnT
  simp only
  generalize hK:dot (fun i=>gE w ((permL l order).getD i 0)) (rowS (permL t.1 order)) (permL t.1 order).length=K at *
  obtain ⟨hu1,hu2,hu3⟩:=hur
  have hKn:K.toNat < (pr (permL t.1 order)).toNat:=by omega
  rw [G5z (by rw [Cwz];exact hKn),Fkz hKn]
  congr 2
  unfold cellK
  rw [show ((K.toNat:Nat):Int)=K by omega,A8z,ho.1,Hzz ho,Int.zero_add]
  refine B2z fun d hd=>?_
  obtain ⟨i1,i2⟩:=Jgz ho hd
  have e1:(unr (permL t.1 order) K).getD (invO order d) 0=dig (permL t.1 order) K (invO order d):=by
    have:invO order d < (permL t.1 order).length:=by rw [A8z,ho.1];exact i1
    simp [unr,List.getD,this]
  rw [← e1,hu1]
  have i3:invO order d < order.length:=by rw [ho.1];exact i1
  have e2:((permL l order).map (gE w)).getD (invO order d) 0=gE w ((permL l order).getD (invO order d) 0):=by
    have:invO order d < (permL l order).length:=by rw [A8z];exact i3
    simp [List.getD,this]
  rw [e2,B8z _ _ i3,i2,Int.toNat_natCast]
/-- One tensor,turned,with its labels turned: the same contraction. -/
theorem ct_turn1 {t:Tn} {l order out e:List Int} (h:exO [t] [l]=some e) (ho:isOrd order t.1.length):ctT [turnT t order] [permL l order] out=ctT [t] [l] out:=by
  have hC:=Cpz h
  obtain ⟨⟨hs,hlen⟩,hl,hl5,hge⟩:=hC.lab 0 t l rfl rfl
  have hv:vT t=true:=by have:=(Elz h).1;simpa using this
  have hpm:∀ x,x ∈ permL l order ↔ x ∈ l:=fun x=>(B7z (by rw [hl];exact ho)).mem_iff
  have hgp:∀ j,j < (permL l order).length → gE e ((permL l order).getD j 0)=(turnT t order).1.getD j 0:=fun j hj=>by
    rw [A8z] at hj
    show _=(permL t.1 order).getD j 0
    rw [B8z _ _ hj,B8z _ _ hj]
    have hx:=ho.2.1 _ (A2z hj)
    exact hge _ (by omega)
  obtain ⟨e',he'⟩:=one_of (t:=turnT t order) (l:=permL l order) (gE e) (Fzz hv ho) (by show (permL l order).length=(permL t.1 order).length;rw [A8z,A8z]) (fun x hx=>hl5 x ((hpm x).1 hx)) hgp
  have hm:∀ x,x ∈ [permL l order].flatten ↔ x ∈ [l].flatten:=fun x=>by simpa using hpm x
  have hee:e'=e:=ex_unique h he' hm fun x hx=>by
    have hx':x ∈ permL l order:=by have:=(hm x).2 hx;simpa using this
    obtain ⟨j,hj,rfl⟩:=C0z.1 hx'
    rw [hgp j hj,((Cpz he').lab 0 _ _ rfl rfl).2.2.2 j hj]
  rw [hee] at he'
  refine ct_congr h he' hm fun w hw=>?_
  have:=turn_tv (w:=w) hs hl ho (fit_lab hC hw (i:=0) rfl rfl)
  simp [gP,prodL,this]
theorem ord2:isOrd [1,0] 2:=⟨rfl,by decide,by decide⟩
/-- The trace is the sum of the diagonal. -/
theorem tr_sum {t v:Tn} (h:trT t=some v):vT t=true ∧ vT v=true ∧ ∃ n:Nat,t.1=[(n:Int),(n:Int)] ∧ n ≤ 60 ∧ v.2.getD 0 0=w64 (sumN n fun i=>t.2.getD (i * n + i) 0):=by
  obtain ⟨e,he,hc,hv,ho⟩:=Jnz h
  have hC:=Cpz he
  have hvt:vT t=true:=by have:=(Elz he).1;simpa using this
  obtain ⟨⟨hs,hlen⟩,hl,hl5,hge⟩:=hC.lab 0 t [0,0] rfl rfl
  have h0:=hge 0 (by simp)
  have h1:=hge 1 (by simp)
  have hu:=(hC.used 0 (by simp)).2
  obtain ⟨x,y⟩:=t
  match x,hl,h0,h1,hlen,hs,hvt with
  | [a,b],_,h0,h1,hlen,hs,hvt =>
    simp only [List.getD_cons_zero,List.getD_cons_succ] at h0 h1
    obtain ⟨n,hn⟩:∃ n:Nat,gE e 0=n:=⟨(gE e 0).toNat,by omega⟩
    refine ⟨hvt,by rw [ho];exact hv,n,by rw [← h0,← h1,hn],by omega,?_⟩
    rw [ho]
    have hsd:sumd [[0,0]] []=[0]:=by decide
    have e1:(ctW [([a,b],y)] [[0,0]] [] e).2.getD 0 0=w64 (ctE [([a,b],y)] [[0,0]] [] e 0):=rfl
    rw [e1]
    congr 1
    unfold ctE
    rw [hsd]
    show sumN (gE e 0).toNat _=_
    rw [hn,Int.toNat_natCast]
    refine A9z fun i hi=>?_
    have hr:rowS [a,b]=[b,1]:=by simp [rowS,List.range_succ,pr]
    have hb:b=n:=by rw [← h1,hn]
    show y.getD (dot (fun d=>gE ((Z5).set 0 (i:Int)) (([0,0]:List Int).getD d 0)) (rowS [a,b]) 2).toNat 0 * 1=_
    have hd:dot (fun d=>gE ((Z5).set 0 (i:Int)) (([0,0]:List Int).getD d 0)) [b,1] 2=((i * n + i:Nat):Int):=by
      rw [hb]
      simp [dot,gE]
    rw [hr,hd,Int.toNat_natCast,Int.mul_one]
theorem tr_turn {t v:Tn} (h:trT t=some v):vT t=true ∧ ordB [1,0] t.1.length=true ∧ trT (turnT t [1,0])=some v:=by
  obtain ⟨e,he,hc,hv,ho⟩:=Jnz h
  have hvt:vT t=true:=by have:=(Elz he).1;simpa using this
  have hl:=((Cpz he).lab 0 t [0,0] rfl rfl).2.1
  have hl2:t.1.length=2:=by simpa using hl.symm
  refine ⟨hvt,ordB_of (by rw [hl2];exact ord2),?_⟩
  have:=ct_turn1 (out:=[]) he (order:=[1,0]) (by rw [hl2];exact ord2)
  rw [show permL [0,0] [1,0]=[0,0] from rfl] at this
  exact this.trans h
theorem sum_part {y:List Int} {n:Nat} (hb:∀ x ∈ y,-1000000 ≤ x ∧ x ≤ 1000000):∀ k,k ≤ n → -1000000 * (k:Int) ≤ sumN k (fun i=>y.getD (i * n + i) 0) ∧ sumN k (fun i=>y.getD (i * n + i) 0) ≤ 1000000 * k
  | 0,_=>by simp [sumN]
  | k + 1,hk=>by
    have ih:=sum_part (n:=n) hb k (by omega)
    have h1:-1000000 ≤ y.getD (k * n + k) 0 ∧ y.getD (k * n + k) 0 ≤ 1000000:=by
      by_cases hlt:k * n + k < y.length
      · exact hb _ (A2z hlt)
      · rw [List.getD_eq_getElem?_getD,List.getElem?_eq_none (by omega)];simp
    simp only [sumN]
    push_cast
    omega


theorem iTT10_ok (a1 a2:List Int) (n1 n2:Nat) (h:a1.length=n1 ∧ a2.length=n2) (hb:n1 ≤ 1099511627776 ∧ n2 ≤ 1099511627776) :
    BCall Try.prog 11 [.agg [.rows false (IL a1) n1,.rows false (IL a2) n2],.rows false [.int .i64 1,.int .i64 0] 2] [] (OT (ttT (a1,a2) [1,0]).1 (ttT (a1,a2) [1,0]).2) :=
  iTT_ok a1 a2 [1,0] n1 n2 2 h.1 h.2 rfl ⟨hb,by omega⟩


set_option maxHeartbeats 32000000 in
theorem fTr_ok (bs:List Int) (hl:bs.length ≤ 9223372036854775807) (hb:∀ x ∈ bs,0 ≤ x ∧ x ≤ 255):PCall Try.prog 4 [.rows false (UL bs) bs.length] (fun r=>r=.bool true):=by
  refine Ayz l4_eq rfl ?_
  by_cases h:bs.length ≤ 1048576
  · have q:bs.length ≤ 1099511627776 ∧ ∀ x ∈ bs,0 ≤ x ∧ x ≤ 255:=⟨by omega,hb⟩
    (repeat' (first
 | (refine H3z (c1:=.reg l4r3) (fun x:Tn=>mkS [(3,.ref 48 2 0)] [(48,[.rows true (IL x.1) x.1.length,.rows true (IL x.2) x.2.length])]) (fun x=>x.1.length ≤ 5 ∧ x.2.length ≤ 61) ?_ ?_)
 | (first|refine Alz ?_|refine Aez ?_)
 | ((first|refine Amz ?_|refine Arz (mid:=l4r11a) (post:=l4r11b) Awz (by decide) ?_|refine Adz ?_|refine Agz ?_|refine Ahz ?_);simp (disch:=omega) only [push_cast,seval,l4r0,l4r1,l4r2,l4r3,l4r4,l4r5,l4r6,l4r7,l4r8,l4r9,l4r10,l4r11a,l4r11b,l4r11,l4r12,l4r13,l4r14])
 | ((first|refine Aaz ?_ ?_|refine Acz ?_ ?_|refine Abz ?_ ?_)<;>intro h<;>(try simp only [h])<;>(try simp only [bitvec_to_nat] at h)<;>(try simp only [h])<;>(first|(exfalso;omega)|(exfalso;simp_all;done)|(simp (disch:=omega) only [push_cast,seval])|skip))
 | ((first|refine Aqz false ?_|refine qcallD_of false ?_);simp (disch:=omega) only [push_cast,seval])
 | ((first|(refine call0D (BCall.ofP (Dez _ _ ?_ ?_)) ?_;(iterate 2 (exact sd));rintro _ _ ⟨⟨x1,y1,hxy,rfl⟩,rfl⟩)|((first|refine call0D (BCall.ofP (iTr_ok _ _ _ _ ?_ ?_)) ?_|refine qcall0D (BCall.ofP (iTr_ok _ _ _ _ ?_ ?_)) ⟨_,_,rfl,rfl⟩ ?_);(iterate 2 (exact sd));rintro _ _ ⟨rfl,rfl⟩)|((first|refine call0D (BCall.ofP (sTr_ok _ _ _ _ ?_ ?_)) ?_|refine qcall0D (BCall.ofP (sTr_ok _ _ _ _ ?_ ?_)) ⟨_,_,rfl,rfl⟩ ?_);(iterate 2 (exact sd));rintro _ _ ⟨rfl,rfl⟩)|((first|refine call0D (iTT10_ok _ _ _ _ ?_ ?_) ?_|refine qcall0D (iTT10_ok _ _ _ _ ?_ ?_) ⟨_,_,rfl,rfl⟩ ?_);(iterate 2 (exact sd));rintro _ _ ⟨rfl,rfl⟩))<;>(try simp (disch:=omega) only [push_cast,seval]))
 | (refine Aiz ⟨.inr rfl,_,rfl,?_⟩;(try simp (disch:=omega) only [push_cast,seval]))))
    · exact exSub2 (by (refine Sub.of_lists ?_ ?_ ?_ ?_ ?_<;>simp [Vw.mkS,Vw.lk,Vw.hk,AV.inn,innL,Asz,Aoz,Atz,-List.map_set,-List.getD_eq_getElem?_getD])) hxy
    · refine ⟨?_⟩
      rintro ⟨x,y⟩ hxy
      try simp only at hxy ⊢
      cases hct:trT (x,y) with
 | none =>
        have hO:OTr none=.tup [.int .i64 0,.bool false]:=rfl
        (repeat' (first
 | (first|refine Alz ?_|refine Aez ?_)
 | ((first|refine Amz ?_|refine Arz (mid:=l4r11a) (post:=l4r11b) Awz (by decide) ?_|refine Adz ?_|refine Agz ?_|refine Ahz ?_);simp (disch:=omega) only [push_cast,seval,l4r0,l4r1,l4r2,l4r3,l4r4,l4r5,l4r6,l4r7,l4r8,l4r9,l4r10,l4r11a,l4r11b,l4r11,l4r12,l4r13,l4r14,hct,hO,ne_eq,not_true_eq_false,decide_false,decide_true])
 | ((first|refine Aaz ?_ ?_|refine Acz ?_ ?_|refine Abz ?_ ?_)<;>intro h<;>(try simp only [h])<;>(try simp only [bitvec_to_nat] at h)<;>(try simp only [h])<;>(first|(exfalso;omega)|(exfalso;simp_all;done)|(simp (disch:=omega) only [push_cast,seval,hct,hO,ne_eq,not_true_eq_false,decide_false,decide_true])|skip))
 | ((first|refine Aqz false ?_|refine qcallD_of false ?_);simp (disch:=omega) only [push_cast,seval,hct,hO,ne_eq,not_true_eq_false,decide_false,decide_true])
 | ((first|(refine call0D (BCall.ofP (Dez _ _ ?_ ?_)) ?_;(iterate 2 (exact sd));rintro _ _ ⟨⟨x1,y1,hxy,rfl⟩,rfl⟩)|((first|refine call0D (BCall.ofP (iTr_ok _ _ _ _ ?_ ?_)) ?_|refine qcall0D (BCall.ofP (iTr_ok _ _ _ _ ?_ ?_)) ⟨_,_,rfl,rfl⟩ ?_);(iterate 2 (exact sd));rintro _ _ ⟨rfl,rfl⟩)|((first|refine call0D (BCall.ofP (sTr_ok _ _ _ _ ?_ ?_)) ?_|refine qcall0D (BCall.ofP (sTr_ok _ _ _ _ ?_ ?_)) ⟨_,_,rfl,rfl⟩ ?_);(iterate 2 (exact sd));rintro _ _ ⟨rfl,rfl⟩)|((first|refine call0D (iTT10_ok _ _ _ _ ?_ ?_) ?_|refine qcall0D (iTT10_ok _ _ _ _ ?_ ?_) ⟨_,_,rfl,rfl⟩ ?_);(iterate 2 (exact sd));rintro _ _ ⟨rfl,rfl⟩))<;>(try simp (disch:=omega) only [push_cast,seval,hct,hO,ne_eq,not_true_eq_false,decide_false,decide_true]))
 | (refine Aiz ⟨.inr rfl,_,rfl,?_⟩;(try simp (disch:=omega) only [push_cast,seval,hct,hO,ne_eq,not_true_eq_false,decide_false,decide_true]))))
        all_goals (try simp)
 | some v =>
        obtain ⟨hvt,hvv,n,hn,hn60,hsum⟩:=tr_sum hct
        obtain ⟨_,hor,htt⟩:=tr_turn hct
        have hty:=G4z hvt hor
        have hO:OTr (some v)=.tup [.int .i64 (v.2.getD 0 0),.bool true]:=rfl
        simp only at hn hsum
        have hvp:=Bnz.1 hvt
        have hpr:(y.length:Int)=n * n:=by have:=hvp.2.1;simp only [hn] at this;simpa [pr] using this
        have hx0:x.getD 0 0=n:=by rw [hn];rfl
        have hx1:x.getD 1 0=n:=by rw [hn];rfl
        have hxl:x.length=2:=by rw [hn];rfl
        have hsp:=sum_part (y:=y) (n:=n) hvp.2.2
        clear hn
        have hsn:=hsp n (Nat.le_refl _)
        rw [w64_id (by omega)] at hsum
        generalize v.2.getD 0 0=s at *
        have hTl:=Ffz hvt (Fnz hor)
        generalize turnT (x,y) [1,0]=T at *
        obtain ⟨Q,R⟩:=T
        simp only at hTl
        (repeat' (first
 | (first|refine Alz ?_|refine Aez ?_)
 | ((first|refine Amz ?_|refine Arz (mid:=l4r11a) (post:=l4r11b) Awz (by decide) ?_|refine Adz ?_|refine Agz ?_|refine Ahz ?_);simp (disch:=omega) only [push_cast,seval,l4r0,l4r1,l4r2,l4r3,l4r4,l4r5,l4r6,l4r7,l4r8,l4r9,l4r10,l4r11a,l4r11b,l4r11,l4r12,l4r13,l4r14,hct,hO,ne_eq,not_true_eq_false,decide_false,decide_true])
 | ((first|refine Aaz ?_ ?_|refine Acz ?_ ?_|refine Abz ?_ ?_)<;>intro h<;>(try simp only [h])<;>(try simp only [bitvec_to_nat] at h)<;>(try simp only [h])<;>(first|(exfalso;omega)|(exfalso;simp_all;done)|(simp (disch:=omega) only [push_cast,seval,hct,hO,ne_eq,not_true_eq_false,decide_false,decide_true])|skip))
 | ((first|refine Aqz false ?_|refine qcallD_of false ?_);simp (disch:=omega) only [push_cast,seval,hct,hO,ne_eq,not_true_eq_false,decide_false,decide_true])
 | ((first|(refine call0D (BCall.ofP (Dez _ _ ?_ ?_)) ?_;(iterate 2 (exact sd));rintro _ _ ⟨⟨x1,y1,hxy,rfl⟩,rfl⟩)|((first|refine call0D (BCall.ofP (iTr_ok _ _ _ _ ?_ ?_)) ?_|refine qcall0D (BCall.ofP (iTr_ok _ _ _ _ ?_ ?_)) ⟨_,_,rfl,rfl⟩ ?_);(iterate 2 (exact sd));rintro _ _ ⟨rfl,rfl⟩)|((first|refine call0D (BCall.ofP (sTr_ok _ _ _ _ ?_ ?_)) ?_|refine qcall0D (BCall.ofP (sTr_ok _ _ _ _ ?_ ?_)) ⟨_,_,rfl,rfl⟩ ?_);(iterate 2 (exact sd));rintro _ _ ⟨rfl,rfl⟩)|((first|refine call0D (iTT10_ok _ _ _ _ ?_ ?_) ?_|refine qcall0D (iTT10_ok _ _ _ _ ?_ ?_) ⟨_,_,rfl,rfl⟩ ?_);(iterate 2 (exact sd));rintro _ _ ⟨rfl,rfl⟩))<;>(try simp (disch:=omega) only [push_cast,seval,hct,hO,ne_eq,not_true_eq_false,decide_false,decide_true]))
 | (refine Aiz ⟨.inr rfl,_,rfl,?_⟩;(try simp (disch:=omega) only [push_cast,seval,hct,hO,ne_eq,not_true_eq_false,decide_false,decide_true]))))
        refine Azz (fun k:Nat=>mkS [(3,.ref 48 2 0),(4,.int .i64 s),(8,.int .i64 (sumN k fun i=>y.getD (i * n + i) 0)),(9,.int .i64 k)] [(48,[.rows true (IL x) x.length,.rows true (IL y) y.length])]) (fun k=>k ≤ n) (fun k=>n - k) 0 (Nat.zero_le _) ?_ ?_
        · have e0:sumN 0 (fun i=>y.getD (i * n + i) 0)=0:=rfl
          (refine Sub.of_lists ?_ ?_ ?_ ?_ ?_<;>simp [Vw.mkS,Vw.lk,Vw.hk,AV.inn,innL,Asz,Aoz,Atz,-List.map_set,-List.getD_eq_getElem?_getD,e0])
        · intro k hk
          have hk1:=hsp k hk
          by_cases hlt:k < n
          · have hk2:=hsp (k + 1) hlt
            have e1:sumN (k + 1) (fun i=>y.getD (i * n + i) 0)=sumN k (fun i=>y.getD (i * n + i) 0) + y.getD (k * n + k) 0:=rfl
            rw [e1] at hk2
            obtain ⟨j,hj⟩:∃ j:Nat,k * n + k=j:=⟨_,rfl⟩
            have hkn:(k:Int) * n + k=j:=by rw [← hj];push_cast
            have hkb:(k + 1) * n ≤ n * n:=Nat.mul_le_mul_right n hlt
            have hjl:j < y.length:=by
              have:(y.length:Int)=((n * n:Nat):Int):=by rw [hpr];push_cast
              have h9:(k + 1) * n=k * n + n:=Nat.succ_mul k n
              omega
            have hkm:0 ≤ (k:Int) * n ∧ (k:Int) * n ≤ 3600:=by
              have h9:k * n ≤ 60 * 60:=Nat.mul_le_mul (by omega) (by omega)
              have h8:((k * n:Nat):Int)=(k:Int) * n:=by push_cast
              omega
            rw [hj] at hk2 e1
            generalize hm:(k:Int) * n=m at *
            generalize hP:sumN k (fun i=>y.getD (i * n + i) 0)=P at *
            generalize hP2:sumN (k + 1) (fun i=>y.getD (i * n + i) 0)=P2 at *
            generalize hyj:y.getD j 0=z at *
            clear hsum hsn hsp
            (repeat' (first
 | (first|refine Alz ?_|refine Aez ?_)
 | ((first|refine Amz ?_|refine Arz (mid:=l4r11a) (post:=l4r11b) Awz (by decide) ?_|refine Adz ?_|refine Agz ?_|refine Ahz ?_);simp (disch:=omega) only [push_cast,seval,l4r0,l4r1,l4r2,l4r3,l4r4,l4r5,l4r6,l4r7,l4r8,l4r9,l4r10,l4r11a,l4r11b,l4r11,l4r12,l4r13,l4r14,hm,hkn,hyj,hx0,hx1])
 | ((first|refine Aaz ?_ ?_|refine Acz ?_ ?_|refine Abz ?_ ?_)<;>intro h<;>(try simp only [h])<;>(try simp only [bitvec_to_nat] at h)<;>(try simp only [h])<;>(first|(exfalso;omega)|(exfalso;simp_all;done)|(simp (disch:=omega) only [push_cast,seval,hm,hkn,hyj,hx0,hx1])|skip))
 | ((first|refine Aqz false ?_|refine qcallD_of false ?_);simp (disch:=omega) only [push_cast,seval,hm,hkn,hyj,hx0,hx1])
 | ((first|(refine call0D (BCall.ofP (Dez _ _ ?_ ?_)) ?_;(iterate 2 (exact sd));rintro _ _ ⟨⟨x1,y1,hxy,rfl⟩,rfl⟩)|((first|refine call0D (BCall.ofP (iTr_ok _ _ _ _ ?_ ?_)) ?_|refine qcall0D (BCall.ofP (iTr_ok _ _ _ _ ?_ ?_)) ⟨_,_,rfl,rfl⟩ ?_);(iterate 2 (exact sd));rintro _ _ ⟨rfl,rfl⟩)|((first|refine call0D (BCall.ofP (sTr_ok _ _ _ _ ?_ ?_)) ?_|refine qcall0D (BCall.ofP (sTr_ok _ _ _ _ ?_ ?_)) ⟨_,_,rfl,rfl⟩ ?_);(iterate 2 (exact sd));rintro _ _ ⟨rfl,rfl⟩)|((first|refine call0D (iTT10_ok _ _ _ _ ?_ ?_) ?_|refine qcall0D (iTT10_ok _ _ _ _ ?_ ?_) ⟨_,_,rfl,rfl⟩ ?_);(iterate 2 (exact sd));rintro _ _ ⟨rfl,rfl⟩))<;>(try simp (disch:=omega) only [push_cast,seval,hm,hkn,hyj,hx0,hx1]))
 | (refine Aiz ⟨.inr rfl,_,rfl,?_⟩; (try simp (disch := omega) only [push_cast,seval,hm,hkn,hyj,hx0,hx1]))))
            refine ⟨k + 1,by omega,by omega,?_⟩
            rw [hP2,e1]
            (refine Sub.of_lists ?_ ?_ ?_ ?_ ?_<;>simp [Vw.mkS,Vw.lk,Vw.hk,AV.inn,innL,Asz,Aoz,Atz,-List.map_set,-List.getD_eq_getElem?_getD])
          · have hk2:k=n:=by omega
            subst hk2
            rw [← hsum]
            clear hsum hsp
            (repeat' (first
 | (first|refine Alz ?_|refine Aez ?_)
 | ((first|refine Amz ?_|refine Arz (mid:=l4r11a) (post:=l4r11b) Awz (by decide) ?_|refine Adz ?_|refine Agz ?_|refine Ahz ?_);simp (disch:=omega) only [push_cast,seval,l4r0,l4r1,l4r2,l4r3,l4r4,l4r5,l4r6,l4r7,l4r8,l4r9,l4r10,l4r11a,l4r11b,l4r11,l4r12,l4r13,l4r14,hty,htt,hO,hx0,decide_true])
 | ((first|refine Aaz ?_ ?_|refine Acz ?_ ?_|refine Abz ?_ ?_)<;>intro h<;>(try simp only [h])<;>(try simp only [bitvec_to_nat] at h)<;>(try simp only [h])<;>(first|(exfalso;omega)|(exfalso;simp_all;done)|(simp (disch:=omega) only [push_cast,seval,hty,htt,hO,hx0,decide_true])|skip))
 | ((first|refine Aqz false ?_|refine qcallD_of false ?_);simp (disch:=omega) only [push_cast,seval,hty,htt,hO,hx0,decide_true])
 | ((first|(refine call0D (BCall.ofP (Dez _ _ ?_ ?_)) ?_;(iterate 2 (exact sd));rintro _ _ ⟨⟨x1,y1,hxy,rfl⟩,rfl⟩)|((first|refine call0D (BCall.ofP (iTr_ok _ _ _ _ ?_ ?_)) ?_|refine qcall0D (BCall.ofP (iTr_ok _ _ _ _ ?_ ?_)) ⟨_,_,rfl,rfl⟩ ?_);(iterate 2 (exact sd));rintro _ _ ⟨rfl,rfl⟩)|((first|refine call0D (BCall.ofP (sTr_ok _ _ _ _ ?_ ?_)) ?_|refine qcall0D (BCall.ofP (sTr_ok _ _ _ _ ?_ ?_)) ⟨_,_,rfl,rfl⟩ ?_);(iterate 2 (exact sd));rintro _ _ ⟨rfl,rfl⟩)|((first|refine call0D (iTT10_ok _ _ _ _ ?_ ?_) ?_|refine qcall0D (iTT10_ok _ _ _ _ ?_ ?_) ⟨_,_,rfl,rfl⟩ ?_);(iterate 2 (exact sd));rintro _ _ ⟨rfl,rfl⟩))<;>(try simp (disch:=omega) only [push_cast,seval,hty,htt,hO,hx0,decide_true]))
 | (refine Aiz ⟨.inr rfl,_,rfl,?_⟩; (try simp (disch := omega) only [push_cast,seval,hty,htt,hO,hx0,decide_true]))))
            all_goals (try simp)
  · (repeat' (first
 | (first|refine Alz ?_|refine Aez ?_)
 | ((first|refine Amz ?_|refine Arz (mid:=l4r11a) (post:=l4r11b) Awz (by decide) ?_|refine Adz ?_|refine Agz ?_|refine Ahz ?_);simp (disch:=omega) only [push_cast,seval,l4r0,l4r1,l4r2,l4r3,l4r4,l4r5,l4r6,l4r7,l4r8,l4r9,l4r10,l4r11a,l4r11b,l4r11,l4r12,l4r13,l4r14])
 | ((first|refine Aaz ?_ ?_|refine Acz ?_ ?_|refine Abz ?_ ?_)<;>intro h<;>(try simp only [h])<;>(try simp only [bitvec_to_nat] at h)<;>(try simp only [h])<;>(first|(exfalso;omega)|(exfalso;simp_all;done)|(simp (disch:=omega) only [push_cast,seval])|skip))
 | ((first|refine Aqz false ?_|refine qcallD_of false ?_);simp (disch:=omega) only [push_cast,seval])
 | ((first|(refine call0D (BCall.ofP (Dez _ _ ?_ ?_)) ?_;(iterate 2 (exact sd));rintro _ _ ⟨⟨x1,y1,hxy,rfl⟩,rfl⟩)|((first|refine call0D (BCall.ofP (iTr_ok _ _ _ _ ?_ ?_)) ?_|refine qcall0D (BCall.ofP (iTr_ok _ _ _ _ ?_ ?_)) ⟨_,_,rfl,rfl⟩ ?_);(iterate 2 (exact sd));rintro _ _ ⟨rfl,rfl⟩)|((first|refine call0D (BCall.ofP (sTr_ok _ _ _ _ ?_ ?_)) ?_|refine qcall0D (BCall.ofP (sTr_ok _ _ _ _ ?_ ?_)) ⟨_,_,rfl,rfl⟩ ?_);(iterate 2 (exact sd));rintro _ _ ⟨rfl,rfl⟩)|((first|refine call0D (iTT10_ok _ _ _ _ ?_ ?_) ?_|refine qcall0D (iTT10_ok _ _ _ _ ?_ ?_) ⟨_,_,rfl,rfl⟩ ?_);(iterate 2 (exact sd));rintro _ _ ⟨rfl,rfl⟩))<;>(try simp (disch:=omega) only [push_cast,seval]))
 | (refine Aiz ⟨.inr rfl,_,rfl,?_⟩;(try simp (disch:=omega) only [push_cast,seval]))))

end Go.Proofs.Ytfmogaimamphdaa
set_option linter.unusedSimpArgs false
set_option linter.unusedVariables false
set_option maxRecDepth 4000
set_option maxHeartbeats 4000000
namespace Go.Proofs.Ytfmogaimamphdaa
open VwM Vw Go

theorem lwithout_ok (xs:List Int) (n:Nat) (k:Nat) (hn:xs.length=n) (hb:k < n ∧ n ≤ 1099511627776):BCall Try.prog 20 [.rows false (IL xs) n,.int .i64 k] [] (OI (wo xs k)):=by
  subst hn
  obtain ⟨hb1,hb2⟩:=hb
  have hl:=wo_length hb1
  refine A1z (pins:=[]) (pin:=0) l20_eq rfl rfl rfl ?_
  have hmin:min k xs.length=k:=by omega
  have hl2:(xs.take k).length=k:=by simp;omega
  have hl3:(xs.drop (k + 1)).length=xs.length - (k + 1):=by simp
  (repeat' (first
 | (first|refine Alz ?_|refine Aez ?_)
 | ((first|refine Amz ?_|refine Bez (mid:=l20r1a) (post:=l20r1b) [80] Awz (by decide) ?_|refine Adz ?_|refine Agz ?_|refine Ahz ?_);simp (disch:=omega) only [push_cast,seval,l20r0,l20r1a,l20r1b,l20r1,B0z,E9z,Nat.sub_zero,hmin,hl2,hl3,← List.map_append])
 | ((first|refine Aaz ?_ ?_|refine Acz ?_ ?_|refine Abz ?_ ?_)<;>intro h<;>(try simp only [h])<;>(try simp only [bitvec_to_nat] at h)<;>(try simp only [h])<;>(first|(exfalso;omega)|(exfalso;simp_all;done)|(simp (disch:=omega) only [push_cast,seval,B0z,E9z,Nat.sub_zero,hmin,hl2,hl3,← List.map_append])|skip))
 | (refine Aiz ⟨.inr rfl,[80],[],_,by decide,rfl,?_⟩;(try simp (disch:=omega) only [push_cast,seval,↓Anz,↓Ajz,↓List.map_cons,↓List.map_nil,B0z,E9z,Nat.sub_zero,hmin,hl2,hl3,← List.map_append]))))
  have hl4:xs.take k ++ xs.drop (k + 1)=wo xs k:=rfl
  all_goals simp only [OI,hl4,hl]
  all_goals (refine ⟨?_,trivial⟩;congr 1;omega)

end Go.Proofs.Ytfmogaimamphdaa
