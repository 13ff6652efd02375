/- Texts of this verifier. -/
import Derived.Test.YtahdlohpncjdbaaGreatDoorCB8
import Derived.Test.YtahdlohpncjdbaaGreatDoorCM1
import Derived.Test.YtahdlohpncjdbaaGreatDoorCW3
set_option linter.unusedSimpArgs false
set_option linter.unusedVariables false
set_option maxRecDepth 4000
set_option maxHeartbeats 4000000
namespace Go.Proofs.YtahdlohpncjdbaaGreatDoor
open VwM Vw Go
set_option linter.unusedSectionVars false
variable [SentA]

abbrev ExT:=Int × (Int × List Int × List Int × Unit) × Bool × Unit
def exT (p:ExT):Ex:=(p.1,(p.2.1.1,p.2.1.2.1,p.2.1.2.2.1),p.2.2.1)
theorem flat_E:∀ x:List ExT,(x.flatMap fun p=>Vw.enI p.1 ++ ((Vw.enI p.2.1.1 ++ (Vw.enS Vw.enI p.2.1.2.1 ++ (Vw.enS Vw.enI p.2.1.2.2.1 ++ []))) ++ (Vw.enB p.2.2.1 ++ [])))=EL false (x.map exT)
  | []=>rfl
  | p :: r=>by
    rw [List.flatMap_cons,flat_E r]
    simp [Vw.enI,Vw.enS,Vw.enB,Vw.flat_ints,EL,exT,IL]
theorem exB_T {x:List ExT} (h:∀ a ∈ x,Vw.goodI a.1 ∧ (Vw.goodI a.2.1.1 ∧ Vw.goodS Vw.goodI a.2.1.2.1 ∧ Vw.goodS Vw.goodI a.2.1.2.2.1 ∧ True) ∧ True ∧ True):exB 9223372036854775807 (x.map exT):=fun e he=>by
  obtain ⟨a,ha,rfl⟩:=List.mem_map.1 he
  have:=h a ha
  exact ⟨this.2.1.2.1.2,this.2.1.2.2.1.2⟩


theorem D8z (p b:Int) (x y:List Int) (o:Bool) (n m:Nat) (k:Int) (hn:x.length=n) (hm:y.length=m) (hk:0 ≤ k ∧ k ≤ 1048576) (hb:n ≤ 9223372036854775807 ∧ m ≤ 9223372036854775807):PCall Tryz.prog 29 [.agg [.int .i64 p,.int .i64 b,.rows false (IL x) n,.rows false (IL y) m,.bool o],.int .i64 k] (fun r=>∃ z:Int,(0 ≤ z → z ≤ k ∧ x.length ≤ 1048576 ∧ y.length ≤ 1048576) ∧ r=.int .i64 z):=by
  subst hn hm
  obtain ⟨hb1,hb2⟩:=hb
  refine Auz l29_eq rfl ?_
  by_cases h:k - (x.length:Int) - y.length < 0
  · (repeat' (first
 | (first|refine Ajz ?_|refine Afz ?_)
 | ((first|refine Akz ?_|refine Aez ?_|refine Agz ?_|refine Ahz ?_);simp (disch:=omega) only [push_cast,seval,l29r0,l29r1,l29r2,l29r3,l29r4,h])
 | ((first|refine Aaz ?_ ?_|refine Adz ?_ ?_|refine Acz ?_ ?_)<;>intro h<;>(try simp only [h])<;>(try simp only [bitvec_to_nat] at h)<;>(try simp only [h])<;>(first|(exfalso;omega)|(exfalso;simp_all;done)|(simp (disch:=omega) only [push_cast,seval,h])|skip))
 | ((first|refine Amz false ?_|refine Alz false ?_);simp (disch:=omega) only [push_cast,seval,h])
 | ((first|((first|refine call0D (BCall.ofP (Fxz _ _ _ _ _ _ ?_ ?_)) ?_|refine qcall0D (BCall.ofP (Fxz _ _ _ _ _ _ ?_ ?_)) ⟨_,_,rfl,rfl⟩ ?_);(iterate 2 (exact sd));rintro _ _ ⟨rfl,rfl⟩))<;>(try simp (disch:=omega) only [push_cast,seval,h]))
 | (refine Aiz ⟨.inr rfl,_,rfl,?_⟩;(try simp (disch:=omega) only [push_cast,seval,h]))))
    all_goals (refine ⟨_,?_,rfl⟩;omega)
  · (repeat' (first
 | (first|refine Ajz ?_|refine Afz ?_)
 | ((first|refine Akz ?_|refine Aez ?_|refine Agz ?_|refine Ahz ?_);simp (disch:=omega) only [push_cast,seval,l29r0,l29r1,l29r2,l29r3,l29r4,h])
 | ((first|refine Aaz ?_ ?_|refine Adz ?_ ?_|refine Acz ?_ ?_)<;>intro h<;>(try simp only [h])<;>(try simp only [bitvec_to_nat] at h)<;>(try simp only [h])<;>(first|(exfalso;omega)|(exfalso;simp_all;done)|(simp (disch:=omega) only [push_cast,seval,h])|skip))
 | ((first|refine Amz false ?_|refine Alz false ?_);simp (disch:=omega) only [push_cast,seval,h])
 | ((first|((first|refine call0D (BCall.ofP (Fxz _ _ _ _ _ _ ?_ ?_)) ?_|refine qcall0D (BCall.ofP (Fxz _ _ _ _ _ _ ?_ ?_)) ⟨_,_,rfl,rfl⟩ ?_);(iterate 2 (exact sd));rintro _ _ ⟨rfl,rfl⟩))<;>(try simp (disch:=omega) only [push_cast,seval,h]))
 | (refine Aiz ⟨.inr rfl,_,rfl,?_⟩;(try simp (disch:=omega) only [push_cast,seval,h]))))
    all_goals (refine ⟨_,?_,rfl⟩;omega)


set_option maxHeartbeats 8000000 in
theorem szExportS_ok (es:List Ex) (n:Nat) (k:Int) (hn:es.length=n) (hk:0 ≤ k ∧ k ≤ 1048576) (hb:n ≤ 9223372036854775807 ∧ exB 9223372036854775807 es):PCall Tryz.prog 13 [.rows false (EL false es) n,.int .i64 k] (fun r=>∃ z:Int,(0 ≤ z → z ≤ k ∧ es.length ≤ 1048576 ∧ exB 1048576 es) ∧ r=.int .i64 z):=by
  subst hn
  obtain ⟨hb1,hb2⟩:=hb
  refine Auz l13_eq rfl ?_
  have hel:=Bbz false es
  by_cases h0:k - (es.length:Int) < 0
  · (repeat' (first
 | (first|refine Ajz ?_|refine Afz ?_)
 | ((first|refine Akz ?_|refine Aez ?_|refine Agz ?_|refine Ahz ?_);simp (disch:=omega) only [push_cast,seval,l13r0,l13r1,l13r2,l13r3,l13r4,l13r5,l13r6,l13r7,l13r8,l13r9,l13r10,h0,Abz])
 | ((first|refine Aaz ?_ ?_|refine Adz ?_ ?_|refine Acz ?_ ?_)<;>intro h<;>(try simp only [h])<;>(try simp only [bitvec_to_nat] at h)<;>(try simp only [h])<;>(first|(exfalso;omega)|(exfalso;simp_all;done)|(simp (disch:=omega) only [push_cast,seval,h0,Abz])|skip))
 | ((first|refine Amz false ?_|refine Alz false ?_);simp (disch:=omega) only [push_cast,seval,h0,Abz])
 | ((first|(refine call0D (BCall.ofP (D8z _ _ _ _ _ _ _ _ ?_ ?_ ?_ ?_)) ?_;(iterate 4 (exact sd));rintro _ _ ⟨⟨z0,hz0,rfl⟩,rfl⟩))<;>(try simp (disch:=omega) only [push_cast,seval,h0,Abz]))
 | (refine Aiz ⟨.inr rfl,_,rfl,?_⟩;(try simp (disch:=omega) only [push_cast,seval,h0,Abz]))))
    all_goals exact ⟨_,by omega,rfl⟩
  · (repeat' (first
 | (first|refine Ajz ?_|refine Afz ?_)
 | ((first|refine Akz ?_|refine Aez ?_|refine Agz ?_|refine Ahz ?_);simp (disch:=omega) only [push_cast,seval,l13r0,l13r1,l13r2,l13r3,l13r4,l13r5,l13r6,l13r7,l13r8,l13r9,l13r10,h0,Abz])
 | ((first|refine Aaz ?_ ?_|refine Adz ?_ ?_|refine Acz ?_ ?_)<;>intro h<;>(try simp only [h])<;>(try simp only [bitvec_to_nat] at h)<;>(try simp only [h])<;>(first|(exfalso;omega)|(exfalso;simp_all;done)|(simp (disch:=omega) only [push_cast,seval,h0,Abz])|skip))
 | ((first|refine Amz false ?_|refine Alz false ?_);simp (disch:=omega) only [push_cast,seval,h0,Abz])
 | ((first|(refine call0D (BCall.ofP (D8z _ _ _ _ _ _ _ _ ?_ ?_ ?_ ?_)) ?_;(iterate 4 (exact sd));rintro _ _ ⟨⟨z0,hz0,rfl⟩,rfl⟩))<;>(try simp (disch:=omega) only [push_cast,seval,h0,Abz]))
 | (refine Aiz ⟨.inr rfl,_,rfl,?_⟩;(try simp (disch:=omega) only [push_cast,seval,h0,Abz]))))
    refine Bcz (fun x:Nat × Int=>mkS [(0,.rows false (EL false es) es.length),(1,.int .i64 x.2),(5,.int .i64 x.1)] []) (fun x=>x.1 ≤ es.length ∧ (0 ≤ x.2 ∧ x.2 ≤ k) ∧ ∀ j e,j < x.1 → es[j]?=some e → e.2.1.2.1.length ≤ 1048576 ∧ e.2.1.2.2.length ≤ 1048576) (fun x=>es.length - x.1) (0,k - es.length) ⟨Nat.zero_le _,by simp only;omega,fun j v h=>absurd h (Nat.not_lt_zero _)⟩ ?_ ?_
    · (refine Sub.of_lists ?_ ?_ ?_ ?_ ?_<;>simp [Vw.mkS,Vw.lk,Vw.hk,AV.inn,innL,Asz,Arz,Avz,-List.map_set,-List.getD_eq_getElem?_getD,Abz])
    · rintro ⟨i,z⟩ ⟨hi,hz,hall⟩
      simp only at hi hz hall ⊢
      have hzk:0 ≤ z ∧ z ≤ 1048576:=by omega
      by_cases hlt:i < es.length
      · obtain ⟨p,b,x,y,o,he⟩:=Ctz hlt
        have hbb:=Diz hb2 he
        have hd:=Cjz false es i he
        simp only at hd
        have hil:i * 5 + 5 ≤ es.length * 5:=by omega
        (repeat' (first
 | (first|refine Ajz ?_|refine Afz ?_)
 | ((first|refine Akz ?_|refine Aez ?_|refine Agz ?_|refine Ahz ?_);simp (disch:=omega) only [push_cast,seval,l13r0,l13r1,l13r2,l13r3,l13r4,l13r5,l13r6,l13r7,l13r8,l13r9,l13r10,hd,hel,hil,Abz])
 | ((first|refine Aaz ?_ ?_|refine Adz ?_ ?_|refine Acz ?_ ?_)<;>intro h<;>(try simp only [h])<;>(try simp only [bitvec_to_nat] at h)<;>(try simp only [h])<;>(first|(exfalso;omega)|(exfalso;simp_all;done)|(simp (disch:=omega) only [push_cast,seval,hd,hel,hil,Abz])|skip))
 | ((first|refine Amz false ?_|refine Alz false ?_);simp (disch:=omega) only [push_cast,seval,hd,hel,hil,Abz])
 | ((first|(refine call0D (BCall.ofP (D8z _ _ _ _ _ _ _ _ ?_ ?_ ?_ ?_)) ?_;(iterate 4 (exact sd));rintro _ _ ⟨⟨z0,hz0,rfl⟩,rfl⟩))<;>(try simp (disch:=omega) only [push_cast,seval,hd,hel,hil,Abz]))
 | (refine Aiz ⟨.inr rfl,_,rfl,?_⟩;(try simp (disch:=omega) only [push_cast,seval,hd,hel,hil,Abz]))))
        · exact ⟨_,by omega,rfl⟩
        · obtain ⟨a1,a2,a3⟩:=hz0 (by assumption)
          refine ⟨(i + 1,z0),⟨by simp only;omega,by simp only;omega,fun j v hj hjv=>?_⟩,by simp only;omega,?_⟩
          · simp only at hj
            by_cases e:j=i
            · subst e;rw [he] at hjv;cases hjv;exact ⟨a2,a3⟩
            · exact hall j v (by omega) hjv
          · (refine Sub.of_lists ?_ ?_ ?_ ?_ ?_<;>simp [Vw.mkS,Vw.lk,Vw.hk,AV.inn,innL,Asz,Arz,Avz,-List.map_set,-List.getD_eq_getElem?_getD,Abz])
      · (repeat' (first
 | (first|refine Ajz ?_|refine Afz ?_)
 | ((first|refine Akz ?_|refine Aez ?_|refine Agz ?_|refine Ahz ?_);simp (disch:=omega) only [push_cast,seval,l13r0,l13r1,l13r2,l13r3,l13r4,l13r5,l13r6,l13r7,l13r8,l13r9,l13r10,Abz])
 | ((first|refine Aaz ?_ ?_|refine Adz ?_ ?_|refine Acz ?_ ?_)<;>intro h<;>(try simp only [h])<;>(try simp only [bitvec_to_nat] at h)<;>(try simp only [h])<;>(first|(exfalso;omega)|(exfalso;simp_all;done)|(simp (disch:=omega) only [push_cast,seval,Abz])|skip))
 | ((first|refine Amz false ?_|refine Alz false ?_);simp (disch:=omega) only [push_cast,seval,Abz])
 | ((first|(refine call0D (BCall.ofP (D8z _ _ _ _ _ _ _ _ ?_ ?_ ?_ ?_)) ?_;(iterate 4 (exact sd));rintro _ _ ⟨⟨z0,hz0,rfl⟩,rfl⟩))<;>(try simp (disch:=omega) only [push_cast,seval,Abz]))
 | (refine Aiz ⟨.inr rfl,_,rfl,?_⟩;(try simp (disch:=omega) only [push_cast,seval,Abz]))))
        all_goals (refine ⟨_,fun _=>⟨by omega,by omega,fun v hv=>?_⟩,rfl⟩;obtain ⟨j,hj,e⟩:=List.mem_iff_getElem.1 hv;exact hall j v (by omega) (by rw [List.getElem?_eq_getElem hj,e]))


theorem Coz (cs:List Int) (es:List Ex) (m n:Nat) (k:Int) (hm:cs.length=m) (hn:es.length=n) (hk:0 ≤ k ∧ k ≤ 1048576) (hb:m ≤ 9223372036854775807 ∧ n ≤ 9223372036854775807 ∧ exB 9223372036854775807 es):PCall Tryz.prog 4 [.agg [.rows false (IL cs) m,.rows false (EL false es) n],.int .i64 k] (fun r=>∃ z:Int,(0 ≤ z → z ≤ k ∧ cs.length ≤ 1048576 ∧ es.length ≤ 1048576 ∧ exB 1048576 es) ∧ r=.int .i64 z):=by
  subst hm hn
  obtain ⟨hb1,hb2,hb3⟩:=hb
  refine Auz l4_eq rfl ?_
  have hq:es.length ≤ 9223372036854775807 ∧ exB 9223372036854775807 es:=⟨hb2,hb3⟩
  by_cases h:k - (cs.length:Int) < 0
  · (repeat' (first
 | (first|refine Ajz ?_|refine Afz ?_)
 | ((first|refine Akz ?_|refine Aez ?_|refine Agz ?_|refine Ahz ?_);simp (disch:=omega) only [push_cast,seval,l4r0,l4r1,l4r2,l4r3,l4r4,l4r5,l4r6,l4r7,h,Abz])
 | ((first|refine Aaz ?_ ?_|refine Adz ?_ ?_|refine Acz ?_ ?_)<;>intro h<;>(try simp only [h])<;>(try simp only [bitvec_to_nat] at h)<;>(try simp only [h])<;>(first|(exfalso;omega)|(exfalso;simp_all;done)|(simp (disch:=omega) only [push_cast,seval,h,Abz])|skip))
 | ((first|refine Amz false ?_|refine Alz false ?_);simp (disch:=omega) only [push_cast,seval,h,Abz])
 | ((first|((first|refine call0D (BCall.ofP (Clz _ _ _ ?_ ?_)) ?_|refine qcall0D (BCall.ofP (Clz _ _ _ ?_ ?_)) ⟨_,_,rfl,rfl⟩ ?_);(iterate 2 (exact sd));rintro _ _ ⟨rfl,rfl⟩)|(refine call0D (BCall.ofP (szExportS_ok _ _ _ ?_ ?_ ?_)) ?_;(iterate 3 (exact sd));rintro _ _ ⟨⟨z2,hz2,rfl⟩,rfl⟩))<;>(try simp (disch:=omega) only [push_cast,seval,h,Abz]))
 | (refine Aiz ⟨.inr rfl,_,rfl,?_⟩;(try simp (disch:=omega) only [push_cast,seval,h,Abz]))))
    all_goals exact ⟨_,by omega,rfl⟩
  · have hzk:0 ≤ k - (cs.length:Int) ∧ k - (cs.length:Int) ≤ 1048576:=by omega
    (repeat' (first
 | (first|refine Ajz ?_|refine Afz ?_)
 | ((first|refine Akz ?_|refine Aez ?_|refine Agz ?_|refine Ahz ?_);simp (disch:=omega) only [push_cast,seval,l4r0,l4r1,l4r2,l4r3,l4r4,l4r5,l4r6,l4r7,h,Abz])
 | ((first|refine Aaz ?_ ?_|refine Adz ?_ ?_|refine Acz ?_ ?_)<;>intro h<;>(try simp only [h])<;>(try simp only [bitvec_to_nat] at h)<;>(try simp only [h])<;>(first|(exfalso;omega)|(exfalso;simp_all;done)|(simp (disch:=omega) only [push_cast,seval,h,Abz])|skip))
 | ((first|refine Amz false ?_|refine Alz false ?_);simp (disch:=omega) only [push_cast,seval,h,Abz])
 | ((first|((first|refine call0D (BCall.ofP (Clz _ _ _ ?_ ?_)) ?_|refine qcall0D (BCall.ofP (Clz _ _ _ ?_ ?_)) ⟨_,_,rfl,rfl⟩ ?_);(iterate 2 (exact sd));rintro _ _ ⟨rfl,rfl⟩)|(refine call0D (BCall.ofP (szExportS_ok _ _ _ ?_ ?_ ?_)) ?_;(iterate 3 (exact sd));rintro _ _ ⟨⟨z2,hz2,rfl⟩,rfl⟩))<;>(try simp (disch:=omega) only [push_cast,seval,h,Abz]))
 | (refine Aiz ⟨.inr rfl,_,rfl,?_⟩;(try simp (disch:=omega) only [push_cast,seval,h,Abz]))))
    · exact ⟨_,by omega,rfl⟩
    · obtain ⟨a1,a2,a3⟩:=hz2 (by assumption)
      exact ⟨_,fun _=>⟨by omega,by omega,a2,a3⟩,rfl⟩


set_option maxHeartbeats 8000000 in
theorem toBufferP_ok (cs:List Int) (es:List Ex) (m n:Nat) (hm:cs.length=m) (hn:es.length=n) (hb:m ≤ 1048576 ∧ n ≤ 1048576 ∧ exB 1048576 es):PCall Tryz.prog 6 [.agg [.rows false (IL cs) m,.rows false (EL false es) n]] (fun r=>r=.agg [.rows true (IL cs) m,.rows true (EL true es) n]):=by
  subst hm hn
  obtain ⟨hb1,hb2,hb3⟩:=hb
  have hq:es.length ≤ 1048576 ∧ exB 1099511627776 es:=⟨hb2,fun e he=>by have:=hb3 e he;omega⟩
  refine Auz l6_eq rfl ?_
  (repeat' (first
 | (first|refine Ajz ?_|refine Afz ?_)
 | ((first|refine Akz ?_|refine Aez ?_|refine Agz ?_|refine Ahz ?_);simp (disch:=omega) only [push_cast,seval,l6r0,l6r1,l6r2,l6r3,l6r4,Abz,fz_EL,fz_IL])
 | ((first|refine Aaz ?_ ?_|refine Adz ?_ ?_|refine Acz ?_ ?_)<;>intro h<;>(try simp only [h])<;>(try simp only [bitvec_to_nat] at h)<;>(try simp only [h])<;>(first|(exfalso;omega)|(exfalso;simp_all;done)|(simp (disch:=omega) only [push_cast,seval,Abz,fz_EL,fz_IL])|skip))
 | ((first|refine Amz false ?_|refine Alz false ?_);simp (disch:=omega) only [push_cast,seval,Abz,fz_EL,fz_IL])
 | ((first|((first|refine call0D (D1z _ _ ?_ ?_) ?_|refine qcall0D (D1z _ _ ?_ ?_) ⟨_,_,rfl,rfl⟩ ?_);(iterate 2 (exact sd));rintro _ _ ⟨rfl,rfl⟩)|((first|refine call0D (BCall.ofP (toExportSP_ok _ _ ?_ ?_)) ?_|refine qcall0D (BCall.ofP (toExportSP_ok _ _ ?_ ?_)) ⟨_,_,rfl,rfl⟩ ?_);(iterate 2 (exact sd));rintro _ _ ⟨rfl,rfl⟩))<;>(try simp (disch:=omega) only [push_cast,seval,Abz,fz_EL,fz_IL]))
 | (refine Aiz ⟨.inr rfl,_,rfl,?_⟩;(try simp (disch:=omega) only [push_cast,seval,Abz,fz_EL,fz_IL]))))


theorem Czz (p b p' b':Int) (x y x' y':List Int) (o o':Bool) (n m n' m':Nat) (h1:x.length=n) (h2:y.length=m) (h3:x'.length=n') (h4:y'.length=m') (hb:n ≤ 1099511627776 ∧ m ≤ 1099511627776):PCall Tryz.prog 52 [.agg [.int .i64 p,.int .i64 b,.rows false (IL x) n,.rows false (IL y) m,.bool o],.agg [.int .i64 p',.int .i64 b',.rows false (IL x') n',.rows false (IL y') m',.bool o']] (fun r=>r=.bool (decide ((p,(b,x,y),o)=(p',(b',x',y'),o')))):=by
  subst h1 h2 h3 h4
  refine Auz l52_eq rfl ?_
  (repeat' (first
 | (first|refine Ajz ?_|refine Afz ?_)
 | ((first|refine Akz ?_|refine Aez ?_|refine Agz ?_|refine Ahz ?_);simp (disch:=omega) only [push_cast,seval,l52r0,l52r1,l52r2,l52r3,l52r4,l52r5,l52r6,l52r7])
 | ((first|refine Aaz ?_ ?_|refine Adz ?_ ?_|refine Acz ?_ ?_)<;>intro h<;>(try simp only [h])<;>(try simp only [bitvec_to_nat] at h)<;>(try simp only [h])<;>(first|(exfalso;omega)|(exfalso;simp_all;done)|(simp (disch:=omega) only [push_cast,seval])|skip))
 | ((first|refine Amz false ?_|refine Alz false ?_);simp (disch:=omega) only [push_cast,seval])
 | ((first|((first|refine call0D (BCall.ofP (eqView_ok _ _ _ _ _ _ _ _ _ _ ?_ ?_ ?_ ?_ ?_)) ?_|refine qcall0D (BCall.ofP (eqView_ok _ _ _ _ _ _ _ _ _ _ ?_ ?_ ?_ ?_ ?_)) ⟨_,_,rfl,rfl⟩ ?_);(iterate 5 (exact sd));rintro _ _ ⟨rfl,rfl⟩))<;>(try simp (disch:=omega) only [push_cast,seval]))
 | (refine Aiz ⟨.inr rfl,_,rfl,?_⟩;(try simp (disch:=omega) only [push_cast,seval]))))
  all_goals (try simp_all)
  all_goals (try (intro e1 e2 e3;simp_all))


set_option maxHeartbeats 8000000 in
theorem eqExportS_ok (es:List Ex) (n:Nat) (hn:es.length=n) (hb:n ≤ 1048576 ∧ exB 1048576 es):PCall Tryz.prog 24 [.rows false (EL false es) n,.rows false (EL false es) n] (fun r=>r=.bool true):=by
  subst hn
  obtain ⟨hb1,hb2⟩:=hb
  refine Auz l24_eq rfl ?_
  have hel:=Bbz false es
  (repeat' (first
 | (first|refine Ajz ?_|refine Afz ?_)
 | ((first|refine Akz ?_|refine Aqz (mid:=l24r5a) (post:=l24r5b) Ayz (by decide) ?_|refine Aez ?_|refine Agz ?_|refine Ahz ?_);simp (disch:=omega) only [push_cast,seval,l24r0,l24r1,l24r2,l24r3,l24r4,l24r5a,l24r5b,l24r5,l24r6,l24r7,l24r8,Abz,decide_true])
 | ((first|refine Aaz ?_ ?_|refine Adz ?_ ?_|refine Acz ?_ ?_)<;>intro h<;>(try simp only [h])<;>(try simp only [bitvec_to_nat] at h)<;>(try simp only [h])<;>(first|(exfalso;omega)|(exfalso;simp_all;done)|(simp (disch:=omega) only [push_cast,seval,Abz,decide_true])|skip))
 | ((first|refine Amz false ?_|refine Alz false ?_);simp (disch:=omega) only [push_cast,seval,Abz,decide_true])
 | ((first|((first|refine call0D (BCall.ofP (Czz _ _ _ _ _ _ _ _ _ _ _ _ _ _ ?_ ?_ ?_ ?_ ?_)) ?_|refine qcall0D (BCall.ofP (Czz _ _ _ _ _ _ _ _ _ _ _ _ _ _ ?_ ?_ ?_ ?_ ?_)) ⟨_,_,rfl,rfl⟩ ?_);(iterate 5 (exact sd));rintro _ _ ⟨rfl,rfl⟩))<;>(try simp (disch:=omega) only [push_cast,seval,Abz,decide_true]))
 | (refine Aiz ⟨.inr rfl,_,rfl,?_⟩;(try simp (disch:=omega) only [push_cast,seval,Abz,decide_true]))))
  refine Bcz (fun i:Nat=>mkS [(0,.rows false (EL false es) es.length),(1,.rows false (EL false es) es.length),(5,.int .i64 i)] []) (fun i=>i ≤ es.length) (fun i=>es.length - i) 0 (Nat.zero_le _) ?_ ?_
  · (refine Sub.of_lists ?_ ?_ ?_ ?_ ?_<;>simp [Vw.mkS,Vw.lk,Vw.hk,AV.inn,innL,Asz,Arz,Avz,-List.map_set,-List.getD_eq_getElem?_getD,Abz])
  · intro i hi
    by_cases hlt:i < es.length
    · obtain ⟨p,b,x,y,o,he⟩:=Ctz hlt
      have hbb:=Diz hb2 he
      have hd:=Cjz false es i he
      simp only at hd
      have hil:i * 5 + 5 ≤ es.length * 5:=by omega
      (repeat' (first
 | (first|refine Ajz ?_|refine Afz ?_)
 | ((first|refine Akz ?_|refine Aqz (mid:=l24r5a) (post:=l24r5b) Ayz (by decide) ?_|refine Aez ?_|refine Agz ?_|refine Ahz ?_);simp (disch:=omega) only [push_cast,seval,l24r0,l24r1,l24r2,l24r3,l24r4,l24r5a,l24r5b,l24r5,l24r6,l24r7,l24r8,hd,hel,hil,Abz,decide_true])
 | ((first|refine Aaz ?_ ?_|refine Adz ?_ ?_|refine Acz ?_ ?_)<;>intro h<;>(try simp only [h])<;>(try simp only [bitvec_to_nat] at h)<;>(try simp only [h])<;>(first|(exfalso;omega)|(exfalso;simp_all;done)|(simp (disch:=omega) only [push_cast,seval,hd,hel,hil,Abz,decide_true])|skip))
 | ((first|refine Amz false ?_|refine Alz false ?_);simp (disch:=omega) only [push_cast,seval,hd,hel,hil,Abz,decide_true])
 | ((first|((first|refine call0D (BCall.ofP (Czz _ _ _ _ _ _ _ _ _ _ _ _ _ _ ?_ ?_ ?_ ?_ ?_)) ?_|refine qcall0D (BCall.ofP (Czz _ _ _ _ _ _ _ _ _ _ _ _ _ _ ?_ ?_ ?_ ?_ ?_)) ⟨_,_,rfl,rfl⟩ ?_);(iterate 5 (exact sd));rintro _ _ ⟨rfl,rfl⟩))<;>(try simp (disch:=omega) only [push_cast,seval,hd,hel,hil,Abz,decide_true]))
 | (refine Aiz ⟨.inr rfl,_,rfl,?_⟩;(try simp (disch:=omega) only [push_cast,seval,hd,hel,hil,Abz,decide_true]))))
      refine ⟨i + 1,by omega,by omega,?_⟩
      (refine Sub.of_lists ?_ ?_ ?_ ?_ ?_<;>simp [Vw.mkS,Vw.lk,Vw.hk,AV.inn,innL,Asz,Arz,Avz,-List.map_set,-List.getD_eq_getElem?_getD,Abz])
    · (repeat' (first
 | (first|refine Ajz ?_|refine Afz ?_)
 | ((first|refine Akz ?_|refine Aqz (mid:=l24r5a) (post:=l24r5b) Ayz (by decide) ?_|refine Aez ?_|refine Agz ?_|refine Ahz ?_);simp (disch:=omega) only [push_cast,seval,l24r0,l24r1,l24r2,l24r3,l24r4,l24r5a,l24r5b,l24r5,l24r6,l24r7,l24r8,Abz])
 | ((first|refine Aaz ?_ ?_|refine Adz ?_ ?_|refine Acz ?_ ?_)<;>intro h<;>(try simp only [h])<;>(try simp only [bitvec_to_nat] at h)<;>(try simp only [h])<;>(first|(exfalso;omega)|(exfalso;simp_all;done)|(simp (disch:=omega) only [push_cast,seval,Abz])|skip))
 | ((first|refine Amz false ?_|refine Alz false ?_);simp (disch:=omega) only [push_cast,seval,Abz])
 | ((first|((first|refine call0D (BCall.ofP (Czz _ _ _ _ _ _ _ _ _ _ _ _ _ _ ?_ ?_ ?_ ?_ ?_)) ?_|refine qcall0D (BCall.ofP (Czz _ _ _ _ _ _ _ _ _ _ _ _ _ _ ?_ ?_ ?_ ?_ ?_)) ⟨_,_,rfl,rfl⟩ ?_);(iterate 5 (exact sd));rintro _ _ ⟨rfl,rfl⟩))<;>(try simp (disch:=omega) only [push_cast,seval,Abz]))
 | (refine Aiz ⟨.inr rfl,_,rfl,?_⟩;(try simp (disch:=omega) only [push_cast,seval,Abz]))))


theorem eqBuffer_ok (cs:List Int) (es:List Ex) (m n:Nat) (hm:cs.length=m) (hn:es.length=n) (hb:m ≤ 1048576 ∧ n ≤ 1048576 ∧ exB 1048576 es):PCall Tryz.prog 9 [.agg [.rows false (IL cs) m,.rows false (EL false es) n],.agg [.rows false (IL cs) m,.rows false (EL false es) n]] (fun r=>r=.bool true):=by
  subst hm hn
  obtain ⟨hb1,hb2,hb3⟩:=hb
  have hq:es.length ≤ 1048576 ∧ exB 1048576 es:=⟨hb2,hb3⟩
  refine Auz l9_eq rfl ?_
  (repeat' (first
 | (first|refine Ajz ?_|refine Afz ?_)
 | ((first|refine Akz ?_|refine Aez ?_|refine Agz ?_|refine Ahz ?_);simp (disch:=omega) only [push_cast,seval,l9r0,l9r1,l9r2,l9r3,l9r4,l9r5,Abz,decide_true])
 | ((first|refine Aaz ?_ ?_|refine Adz ?_ ?_|refine Acz ?_ ?_)<;>intro h<;>(try simp only [h])<;>(try simp only [bitvec_to_nat] at h)<;>(try simp only [h])<;>(first|(exfalso;omega)|(exfalso;simp_all;done)|(simp (disch:=omega) only [push_cast,seval,Abz,decide_true])|skip))
 | ((first|refine Amz false ?_|refine Alz false ?_);simp (disch:=omega) only [push_cast,seval,Abz,decide_true])
 | ((first|((first|refine call0D (BCall.ofP (Ggz _ _ _ _ ?_ ?_ ?_)) ?_|refine qcall0D (BCall.ofP (Ggz _ _ _ _ ?_ ?_ ?_)) ⟨_,_,rfl,rfl⟩ ?_);(iterate 3 (exact sd));rintro _ _ ⟨rfl,rfl⟩)|((first|refine call0D (BCall.ofP (eqExportS_ok _ _ ?_ ?_)) ?_|refine qcall0D (BCall.ofP (eqExportS_ok _ _ ?_ ?_)) ⟨_,_,rfl,rfl⟩ ?_);(iterate 2 (exact sd));rintro _ _ ⟨rfl,rfl⟩))<;>(try simp (disch:=omega) only [push_cast,seval,Abz,decide_true]))
 | (refine Aiz ⟨.inr rfl,_,rfl,?_⟩;(try simp (disch:=omega) only [push_cast,seval,Abz,decide_true]))))

end Go.Proofs.YtahdlohpncjdbaaGreatDoor
set_option linter.unusedSimpArgs false
set_option linter.unusedVariables false
set_option maxRecDepth 4000
set_option maxHeartbeats 4000000
namespace Go.Proofs.YtahdlohpncjdbaaGreatDoor
open VwM Vw Go
set_option linter.unusedSectionVars false
variable [SentA]

theorem Ddz (j:Nat):(j + 1=0)=False:=by simp
theorem Dgz (j:Nat):(0=j + 1)=False:=by simp
theorem hk_pinB_none (rows:Nat → List Int) (n id:Nat) (h:n + 2 ≤ id):hk (pinB rows n) id=none:=by
  have:=Bmz (fun j=>j + 2) (fun j=>IL (rows j)) [] id (List.range n) fun j hj e=>by have:=List.mem_range.1 hj;omega
  rw [List.append_nil] at this
  exact this


end Go.Proofs.YtahdlohpncjdbaaGreatDoor
set_option linter.unusedSimpArgs false
set_option linter.unusedVariables false
set_option maxRecDepth 4000
set_option maxHeartbeats 4000000
namespace Go.Proofs.YtahdlohpncjdbaaGreatDoor
open VwM Vw Go
set_option linter.unusedSectionVars false
variable [SentA]

def kidB (cs:List Int) (es:List Ex) (id:Int):Bool:=vB cs es && (decide (-1 ≤ id) && decide (id ≤ (es.length:Int) - 1))
def kidsA (cs:List Int) (es:List Ex) (id:Int):List Int:=if kidB cs es id=true then kidsT es id es.length else []
def opensT (es:List Ex):Nat → List Int
  | 0=>[]
  | k + 1=>match es[k]? with
    | some e=>if e.2.2=true then opensT es k ++ [(k:Int)] else opensT es k
    | none=>opensT es k
def opensA (cs:List Int) (es:List Ex):List Int:=if vB cs es=true then opensT es es.length else []
theorem vB_8 {cs:List Int} {es:List Ex} (h:vB cs es=true):es.length ≤ 8 ∧ cs.length ≤ 60 ∧ parOk es:=by
  unfold vB at h
  simp only [Bool.and_eq_true,decide_eq_true_eq] at h
  obtain ⟨⟨h1,h2⟩,h3⟩:=h
  refine ⟨h2,by unfold vMem at h1;simp at h1;omega,fun i e he=>?_⟩
  have hi:i < es.length:=(List.getElem?_eq_some_iff.1 he).1
  have:=(Dnz (f:=sxV cs.length es)).1 h3 i e hi he
  unfold sxV exV at this
  simp only [Bool.and_eq_true,decide_eq_true_eq] at this
  omega




set_option maxHeartbeats 8000000 in
theorem B9z (cs:List Int) (es:List Ex) (m n:Nat) (hm:cs.length=m) (hn:es.length=n) (hb:m ≤ 1048576 ∧ n ≤ 1048576 ∧ exB 1048576 es):BCall Tryz.prog 6 [.agg [.rows false (IL cs) m,.rows false (EL false es) n]] [] (fun r H'=>r=.agg [.own 0 m 1,.own 1 n 5] ∧ H'=IL cs :: (esF es).cellsG (· + 2) :: (esF es).conts):=by
  subst hm hn
  obtain ⟨hb1,hb2,hb3⟩:=hb
  have hq:es.length ≤ 1048576 ∧ exB 1099511627776 es:=⟨hb2,fun e he=>by have:=hb3 e he;omega⟩
  refine A4z (pins:=[]) (pin:=0) l6_eq rfl rfl rfl ?_
  have hel:=Bbz false es
  (repeat' (first
 | (first|refine Ajz ?_|refine Afz ?_)
 | ((first|refine Akz ?_|refine Aez ?_|refine Agz ?_|refine Ahz ?_);simp (disch:=omega) only [push_cast,seval,l6r0,l6r1,l6r2,l6r3,l6r4,Abz,hel])
 | ((first|refine Aaz ?_ ?_|refine Adz ?_ ?_|refine Acz ?_ ?_)<;>intro h<;>(try simp only [h])<;>(try simp only [bitvec_to_nat] at h)<;>(try simp only [h])<;>(first|(exfalso;omega)|(exfalso;simp_all;done)|(simp (disch:=omega) only [push_cast,seval,Abz,hel])|skip))
 | ((first|((with_reducible refine Amz (f:=19) false ?_);simp (disch:=omega) only [push_cast,seval,Abz,hel];(refine callFN (Fwz _ _ ?_ ?_) (by (simp (disch:=omega) only [push_cast,seval,Abz,hel]);done) ?_;(iterate 2 (exact sd)))))<;>(try simp (disch:=omega) only [push_cast,seval,Abz,hel]))
 | ((first|refine Amz false ?_|refine Alz false ?_);simp (disch:=omega) only [push_cast,seval,Abz,hel])
 | ((first|((first|refine call0D (D1z _ _ ?_ ?_) ?_|refine qcall0D (D1z _ _ ?_ ?_) ⟨_,_,rfl,rfl⟩ ?_);(iterate 2 (exact sd));rintro _ _ ⟨rfl,rfl⟩))<;>(try simp (disch:=omega) only [push_cast,seval,Abz,hel]))))
  refine Aiz ⟨.inr rfl,ret_famB (id0:=96) (id1:=160) (d:=10) (F:=esF es) (cs:=cs) rfl ?_ ?_ ?_ (by omega)⟩
  · simp only [hk,if_false,Fpz _ _ _ 96 (by omega)]
    rfl
  · rfl
  · intro j hj
    simp only [hk,Axz 10 j 32 (by omega),Axz 10 j 48 (by omega),Axz 10 j 160 (by omega),if_false]
    exact Cpz _ _ _ _ hj



end Go.Proofs.YtahdlohpncjdbaaGreatDoor
set_option linter.unusedSimpArgs false
set_option linter.unusedVariables false
set_option maxRecDepth 4000
set_option maxHeartbeats 4000000
namespace Go.Proofs.YtahdlohpncjdbaaGreatDoor
open VwM Vw Go
set_option linter.unusedSectionVars false
variable [SentA]

theorem exR_b {es:List Ex} {n:Nat} (h:exB n es):∀ j,(exR es j).length ≤ n:=fun j=>by
  unfold exR
  by_cases hj:j / 2 < es.length
  · obtain ⟨p,b,x,y,o,he⟩:=Ctz hj
    have:=Diz h he
    have e:es.getD (j / 2) (0,(0,[],[]),false)=(p,(b,x,y),o):=by simp [List.getD,he]
    rw [e]
    simp only
    split<;>omega
  · have e:es.getD (j / 2) (0,(0,[],[]),false)=(0,(0,[],[]),false):=by simp [List.getD,hj]
    rw [e]
    split<;>simp
theorem en_B (x0:List Int) (x1:List ExT):(Vw.enS Vw.enI x0 ++ (Vw.enS (fun p:ExT=>Vw.enI p.1 ++ ((Vw.enI p.2.1.1 ++ (Vw.enS Vw.enI p.2.1.2.1 ++ (Vw.enS Vw.enI p.2.1.2.2.1 ++ []))) ++ (Vw.enB p.2.2.1 ++ []))) x1 ++ []))=[.rows false (IL x0) x0.length,.rows false (EL false (x1.map exT)) (x1.map exT).length]:=by
  have e1:=flat_E x1
  unfold Vw.enS at e1 ⊢
  rw [e1,List.length_map]
  simp [Vw.enI,Vw.flat_ints,IL]

end Go.Proofs.YtahdlohpncjdbaaGreatDoor
set_option linter.unusedSimpArgs false
set_option linter.unusedVariables false
set_option maxRecDepth 4000
set_option maxHeartbeats 4000000
namespace Go.Proofs.YtahdlohpncjdbaaGreatDoor
open VwM Vw Go
set_option linter.unusedSectionVars false
variable [SentA]

def opA (es:List Ex) (id:Int):Bool:=(decide (0 ≤ id) && decide (id ≤ (es.length:Int) - 1)) && (match es[id.toNat]? with|some e=>e.2.2|none=>false)
def vwA (es:List Ex) (id:Int):Vw3:=(es.getD id.toNat (0,(0,[],[]),false)).2.1
def loadA (cs:List Int) (es:List Ex) (id:Int):List Int:=if (vB cs es && opA es id)=true then takesL cs (offs (vwA es id).1 (vwA es id).2.1 (vwA es id).2.2) else []
theorem opA_at {es:List Ex} {id:Int} (h:opA es id=true):∃ (q:Nat) (p b:Int) (x y:List Int),id=q ∧ q < es.length ∧ es[q]?=some (p,(b,x,y),true) ∧ vwA es id=(b,x,y):=by
  unfold opA at h
  simp only [Bool.and_eq_true,decide_eq_true_eq] at h
  obtain ⟨⟨h1,h2⟩,h3⟩:=h
  obtain ⟨q,rfl⟩:∃ q:Nat,id=q:=⟨id.toNat,by omega⟩
  obtain ⟨p,b,x,y,o,he⟩:=Ctz (es:=es) (i:=q) (by omega)
  simp only [Int.toNat_natCast,he] at h3
  subst h3
  exact ⟨q,p,b,x,y,rfl,by omega,he,by simp [vwA,List.getD,he]⟩
set_option maxHeartbeats 8000000 in
theorem siO_ok (cs:List Int) (es:List Ex) (m n:Nat) (id:Int) (hm:cs.length=m) (hn:es.length=n) (hb:m ≤ 1099511627776 ∧ n ≤ 1099511627776) :
    PCall Tryz.prog 15 [.agg [.rows false (IL cs) m,.rows false (EL false es) n],.int .i64 id] (fun r=>r=.bool (opA es id)):=by
  subst hm hn
  obtain ⟨hb1,hb2⟩:=hb
  have hel:=Bbz false es
  refine Auz l15_eq rfl ?_
  unfold opA
  by_cases hr:0 ≤ id ∧ id ≤ (es.length:Int) - 1
  · have hrd:(decide (0 ≤ id) && decide (id ≤ (es.length:Int) - 1))=true:=by rw [Bool.and_eq_true,decide_eq_true_eq,decide_eq_true_eq];exact hr
    rw [hrd]
    obtain ⟨q,rfl⟩:∃ q:Nat,id=q:=⟨id.toNat,by omega⟩
    obtain ⟨p,b,x,y,o,he⟩:=Ctz (es:=es) (i:=q) (by omega)
    have hd:=Cjz false es q he
    simp only at hd
    have hil:q * 5 + 5 ≤ es.length * 5:=by omega
    have h4:((EL false es).drop (q * 5 + 4)).take 1=[.bool o]:=by
      have:=congrArg (fun l=>(l.drop 4).take 1) hd
      simpa [List.drop_take,List.drop_drop,List.take_take] using this
    simp only [Int.toNat_natCast,he]
    (repeat' (first
 | (first|refine Ajz ?_|refine Afz ?_)
 | ((first|refine Akz ?_|refine Aez ?_|refine Agz ?_|refine Ahz ?_);simp (disch:=omega) only [push_cast,seval,l15r0,l15r1,h4,hel,hil,hrd,Abz])
 | ((first|refine Aaz ?_ ?_|refine Adz ?_ ?_|refine Acz ?_ ?_)<;>intro h<;>(try simp only [h])<;>(try simp only [bitvec_to_nat] at h)<;>(try simp only [h])<;>(first|(exfalso;omega)|(exfalso;simp_all;done)|(simp (disch:=omega) only [push_cast,seval,h4,hel,hil,hrd,Abz])|skip))
 | ((first|refine Amz false ?_|refine Alz false ?_);simp (disch:=omega) only [push_cast,seval,h4,hel,hil,hrd,Abz])
 | ((first|((first|refine call0D (BCall.ofP (inRange_ok _ _ _)) ?_|refine qcall0D (BCall.ofP (inRange_ok _ _ _)) ⟨_,_,rfl,rfl⟩ ?_);rintro _ _ ⟨rfl,rfl⟩))<;>(try simp (disch:=omega) only [push_cast,seval,h4,hel,hil,hrd,Abz]))
 | (refine Aiz ⟨.inr rfl,_,rfl,?_⟩;(try simp (disch:=omega) only [push_cast,seval,h4,hel,hil,hrd,Abz]))))
    all_goals (try simp)
  · have hrd:(decide (0 ≤ id) && decide (id ≤ (es.length:Int) - 1))=false:=by rw [Bool.eq_false_iff];intro h;simp at h;omega
    rw [hrd]
    (repeat' (first
 | (first|refine Ajz ?_|refine Afz ?_)
 | ((first|refine Akz ?_|refine Aez ?_|refine Agz ?_|refine Ahz ?_);simp (disch:=omega) only [push_cast,seval,l15r0,l15r1,hel,hrd,Abz])
 | ((first|refine Aaz ?_ ?_|refine Adz ?_ ?_|refine Acz ?_ ?_)<;>intro h<;>(try simp only [h])<;>(try simp only [bitvec_to_nat] at h)<;>(try simp only [h])<;>(first|(exfalso;omega)|(exfalso;simp_all;done)|(simp (disch:=omega) only [push_cast,seval,hel,hrd,Abz])|skip))
 | ((first|refine Amz false ?_|refine Alz false ?_);simp (disch:=omega) only [push_cast,seval,hel,hrd,Abz])
 | ((first|((first|refine call0D (BCall.ofP (inRange_ok _ _ _)) ?_|refine qcall0D (BCall.ofP (inRange_ok _ _ _)) ⟨_,_,rfl,rfl⟩ ?_);rintro _ _ ⟨rfl,rfl⟩))<;>(try simp (disch:=omega) only [push_cast,seval,hel,hrd,Abz]))
 | (refine Aiz ⟨.inr rfl,_,rfl,?_⟩;(try simp (disch:=omega) only [push_cast,seval,hel,hrd,Abz]))))
    all_goals (try simp)


set_option maxHeartbeats 8000000 in
theorem I4z (cs:List Int) (es:List Ex) (m n:Nat) (id:Int) (hm:cs.length=m) (hn:es.length=n) (hb:m ≤ 1099511627776 ∧ n ≤ 1099511627776 ∧ exB 1099511627776 es) :
    PCall Tryz.prog 20 [.agg [.rows false (IL cs) m,.rows false (EL false es) n],.int .i64 id] (fun r=>r=.bool (vB cs es && opA es id)):=by
  subst hm hn
  have hb0:=hb
  obtain ⟨hb1,hb2,hb3⟩:=hb
  have hel:=Bbz false es
  refine Auz l20_eq rfl ?_
  cases hv:vB cs es with
  | false =>
    (repeat' (first
 | (first|refine Ajz ?_|refine Afz ?_)
 | ((first|refine Akz ?_|refine Aez ?_|refine Agz ?_|refine Ahz ?_);simp (disch:=omega) only [push_cast,seval,l20r0,l20r1,hv,hel,Abz])
 | ((first|refine Aaz ?_ ?_|refine Adz ?_ ?_|refine Acz ?_ ?_)<;>intro h<;>(try simp only [h])<;>(try simp only [bitvec_to_nat] at h)<;>(try simp only [h])<;>(first|(exfalso;omega)|(exfalso;simp_all;done)|(simp (disch:=omega) only [push_cast,seval,hv,hel,Abz])|skip))
 | ((first|refine Amz false ?_|refine Alz false ?_);simp (disch:=omega) only [push_cast,seval,hv,hel,Abz])
 | ((first|((first|refine call0D (BCall.ofP (Guz _ _ _ _ ?_ ?_ ?_)) ?_|refine qcall0D (BCall.ofP (Guz _ _ _ _ ?_ ?_ ?_)) ⟨_,_,rfl,rfl⟩ ?_);(iterate 3 (exact sd));rintro _ _ ⟨rfl,rfl⟩)|((first|refine call0D (BCall.ofP (upTo_ok _ _)) ?_|refine qcall0D (BCall.ofP (upTo_ok _ _)) ⟨_,_,rfl,rfl⟩ ?_);rintro _ _ ⟨rfl,rfl⟩))<;>(try simp (disch:=omega) only [push_cast,seval,hv,hel,Abz]))
 | (refine Aiz ⟨.inr rfl,_,rfl,?_⟩;(try simp (disch:=omega) only [push_cast,seval,hv,hel,Abz]))))
    all_goals (try simp)
  | true =>
    unfold opA
    by_cases hr:0 ≤ id ∧ id ≤ (es.length:Int) - 1
    · have hrd:(decide (0 ≤ id) && decide (id ≤ (es.length:Int) - 1))=true:=by rw [Bool.and_eq_true,decide_eq_true_eq,decide_eq_true_eq];exact hr
      rw [hrd]
      obtain ⟨q,rfl⟩:∃ q:Nat,id=q:=⟨id.toNat,by omega⟩
      obtain ⟨p,b,x,y,o,he⟩:=Ctz (es:=es) (i:=q) (by omega)
      have hd:=Cjz false es q he
      simp only at hd
      have hil:q * 5 + 5 ≤ es.length * 5:=by omega
      have h4:((EL false es).drop (q * 5 + 4)).take 1=[.bool o]:=by
        have:=congrArg (fun l=>(l.drop 4).take 1) hd
        simpa [List.drop_take,List.drop_drop,List.take_take] using this
      simp only [Int.toNat_natCast,he]
      (repeat' (first
 | (first|refine Ajz ?_|refine Afz ?_)
 | ((first|refine Akz ?_|refine Aez ?_|refine Agz ?_|refine Ahz ?_);simp (disch:=omega) only [push_cast,seval,l20r0,l20r1,hv,h4,hel,hil,hrd,Abz])
 | ((first|refine Aaz ?_ ?_|refine Adz ?_ ?_|refine Acz ?_ ?_)<;>intro h<;>(try simp only [h])<;>(try simp only [bitvec_to_nat] at h)<;>(try simp only [h])<;>(first|(exfalso;omega)|(exfalso;simp_all;done)|(simp (disch:=omega) only [push_cast,seval,hv,h4,hel,hil,hrd,Abz])|skip))
 | ((first|refine Amz false ?_|refine Alz false ?_);simp (disch:=omega) only [push_cast,seval,hv,h4,hel,hil,hrd,Abz])
 | ((first|((first|refine call0D (BCall.ofP (Guz _ _ _ _ ?_ ?_ ?_)) ?_|refine qcall0D (BCall.ofP (Guz _ _ _ _ ?_ ?_ ?_)) ⟨_,_,rfl,rfl⟩ ?_);(iterate 3 (exact sd));rintro _ _ ⟨rfl,rfl⟩)|((first|refine call0D (BCall.ofP (upTo_ok _ _)) ?_|refine qcall0D (BCall.ofP (upTo_ok _ _)) ⟨_,_,rfl,rfl⟩ ?_);rintro _ _ ⟨rfl,rfl⟩))<;>(try simp (disch:=omega) only [push_cast,seval,hv,h4,hel,hil,hrd,Abz]))
 | (refine Aiz ⟨.inr rfl,_,rfl,?_⟩;(try simp (disch:=omega) only [push_cast,seval,hv,h4,hel,hil,hrd,Abz]))))
      all_goals (try simp)
    · have hrd:(decide (0 ≤ id) && decide (id ≤ (es.length:Int) - 1))=false:=by rw [Bool.eq_false_iff];intro h;simp at h;omega
      rw [hrd]
      (repeat' (first
 | (first|refine Ajz ?_|refine Afz ?_)
 | ((first|refine Akz ?_|refine Aez ?_|refine Agz ?_|refine Ahz ?_);simp (disch:=omega) only [push_cast,seval,l20r0,l20r1,hv,hel,hrd,Abz])
 | ((first|refine Aaz ?_ ?_|refine Adz ?_ ?_|refine Acz ?_ ?_)<;>intro h<;>(try simp only [h])<;>(try simp only [bitvec_to_nat] at h)<;>(try simp only [h])<;>(first|(exfalso;omega)|(exfalso;simp_all;done)|(simp (disch:=omega) only [push_cast,seval,hv,hel,hrd,Abz])|skip))
 | ((first|refine Amz false ?_|refine Alz false ?_);simp (disch:=omega) only [push_cast,seval,hv,hel,hrd,Abz])
 | ((first|((first|refine call0D (BCall.ofP (Guz _ _ _ _ ?_ ?_ ?_)) ?_|refine qcall0D (BCall.ofP (Guz _ _ _ _ ?_ ?_ ?_)) ⟨_,_,rfl,rfl⟩ ?_);(iterate 3 (exact sd));rintro _ _ ⟨rfl,rfl⟩)|((first|refine call0D (BCall.ofP (upTo_ok _ _)) ?_|refine qcall0D (BCall.ofP (upTo_ok _ _)) ⟨_,_,rfl,rfl⟩ ?_);rintro _ _ ⟨rfl,rfl⟩))<;>(try simp (disch:=omega) only [push_cast,seval,hv,hel,hrd,Abz]))
 | (refine Aiz ⟨.inr rfl,_,rfl,?_⟩;(try simp (disch:=omega) only [push_cast,seval,hv,hel,hrd,Abz]))))
      all_goals (try simp)

end Go.Proofs.YtahdlohpncjdbaaGreatDoor
