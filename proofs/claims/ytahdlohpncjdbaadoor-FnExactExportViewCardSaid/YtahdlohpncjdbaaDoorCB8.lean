/- Texts of this verifier. -/
import Derived.Test.YtahdlohpncjdbaaDoorCB7
import Derived.Test.YtahdlohpncjdbaaDoorCM1
import Derived.Test.YtahdlohpncjdbaaDoorCW3
set_option linter.unusedSimpArgs false
set_option linter.unusedVariables false
set_option maxRecDepth 4000
set_option maxHeartbeats 4000000
namespace Go.Proofs.YtahdlohpncjdbaaDoor
open VwM Vw Go
set_option linter.unusedSectionVars false
variable [SentA]



set_option maxHeartbeats 8000000 in
theorem sAdB_ok (cs:List Int) (es:List Ex) (m n:Nat) (p b:Int) (x y:List Int) (k l:Nat) (hm:cs.length=m) (hn:es.length=n) (hk:x.length=k) (hl:y.length=l) (hb:(k ≤ 1099511627776 ∧ l ≤ 1099511627776) ∧ m ≤ 1099511627776 ∧ n ≤ 1000 ∧ exB 1099511627776 es) :
    BCall Tryd.prog 57 [.agg [.rows false (IL cs) m,.rows false (EL false es) n],.int .i64 p,.agg [.int .i64 b,.rows false (IL x) k,.rows false (IL y) l]] [] (fun r H'=>r=.agg [.own 0 m 1,.own 1 (n + 1) 5] ∧ H'=[IL cs,EL true (es ++ [(p,(b,x,y),true)])]):=by
  subst hm hn hk hl
  obtain ⟨⟨hbx,hby⟩,hb1,hb2,hb3⟩:=hb
  have hq:cs.length ≤ 1099511627776 ∧ es.length ≤ 1099511627776 ∧ exB 1099511627776 es:=⟨hb1,by omega,hb3⟩
  have hel:=A8z true es
  have ha:=Hbz true es [(p,(b,x,y),true)]
  simp only [EL] at ha
  refine Baz (pins:=[]) (pin:=0) l57_eq rfl rfl rfl ?_
  (repeat' (first
 | (first|refine Ajz ?_|refine Afz ?_)
 | ((first|refine Alz ?_|refine Azz (mid:=l57r2a) (post:=l57r2b) Brz (by decide) ?_|refine Aez ?_|refine Agz ?_|refine Ahz ?_);simp (disch:=omega) only [push_cast,seval,l57r0,l57r1,l57r2a,l57r2b,l57r2,l57r3,hel,ha,Aaz,zcX,List.map_append,List.length_map])
 | ((first|refine Abz ?_ ?_|refine Adz ?_ ?_|refine Acz ?_ ?_)<;>intro h<;>(try simp only [h])<;>(try simp only [bitvec_to_nat] at h)<;>(try simp only [h])<;>(first|(exfalso;omega)|(exfalso;simp_all;done)|(simp (disch:=omega) only [push_cast,seval,hel,ha,Aaz,zcX,List.map_append,List.length_map])|skip))
 | ((first|refine Amz false ?_|refine Aiz false ?_);simp (disch:=omega) only [push_cast,seval,hel,ha,Aaz,zcX,List.map_append,List.length_map])
 | ((first|((first|refine call0D (scB_ok _ _ _ _ ?_ ?_ ?_) ?_|refine qcall0D (scB_ok _ _ _ _ ?_ ?_ ?_) ⟨_,_,rfl,rfl⟩ ?_);(iterate 3 (exact sd));rintro _ _ ⟨rfl,rfl⟩)|((first|refine call0D (scopyView_ok _ _ _ _ _ ?_ ?_ ?_) ?_|refine qcall0D (scopyView_ok _ _ _ _ _ ?_ ?_ ?_) ⟨_,_,rfl,rfl⟩ ?_);(iterate 3 (exact sd));rintro _ _ ⟨rfl,rfl⟩))<;>(try simp (disch:=omega) only [push_cast,seval,hel,ha,Aaz,zcX,List.map_append,List.length_map]))
 | (refine Akz ⟨.inr rfl,[144,145],[],_,by decide,rfl,?_⟩;(try simp (disch:=omega) only [push_cast,seval,↓Aqz,↓Aoz,↓List.map_cons,↓List.map_nil,hel,ha,Aaz,zcX,List.map_append,List.length_map]))))
  all_goals (try exact ⟨rfl,rfl⟩)
  all_goals (try rfl)


set_option maxHeartbeats 8000000 in
theorem iAdB_ok (cs:List Int) (es:List Ex) (m n:Nat) (p b:Int) (x y:List Int) (k l:Nat) (hm:cs.length=m) (hn:es.length=n) (hk:x.length=k) (hl:y.length=l) (hb:(k ≤ 1099511627776 ∧ l ≤ 1099511627776) ∧ m ≤ 1048576 ∧ n ≤ 1000 ∧ exB 1048576 es) :
    BCall Tryd.prog 59 [.agg [.rows false (IL cs) m,.rows false (EL false es) n],.int .i64 p,.agg [.int .i64 b,.rows false (IL x) k,.rows false (IL y) l]] [] (OBf (!decide (n=8)) (ifB (!decide (n=8)) cs) (ifB (!decide (n=8)) (es ++ [(p,(b,x,y),true)]))):=by
  subst hm hn hk hl
  obtain ⟨⟨hbx,hby⟩,hb1,hb2,hb3⟩:=hb
  have hq:cs.length ≤ 1048576 ∧ es.length ≤ 1048576 ∧ exB 1048576 es:=⟨hb1,by omega,hb3⟩
  have hel:=A8z false es
  refine Baz (pins:=[]) (pin:=0) l59_eq rfl rfl rfl ?_
  by_cases h8:es.length=8
  · have hd:(!decide (es.length=8))=false:=by simp [h8]
    have h8i:(es.length:Int)=8:=by omega
    rw [hd,Ciz,Ciz]
    (repeat' (first
 | (first|refine Ajz ?_|refine Afz ?_)
 | ((first|refine Alz ?_|refine Azz (mid:=l59r4a) (post:=l59r4b) Brz (by decide) ?_|refine Aez ?_|refine Agz ?_|refine Ahz ?_);simp (disch:=omega) only [push_cast,seval,l59r0,l59r1,l59r2,l59r3,l59r4a,l59r4b,l59r4,l59r5,h8i,hel,Aaz])
 | ((first|refine Abz ?_ ?_|refine Adz ?_ ?_|refine Acz ?_ ?_)<;>intro h<;>(try simp only [h])<;>(try simp only [bitvec_to_nat] at h)<;>(try simp only [h])<;>(first|(exfalso;omega)|(exfalso;simp_all;done)|(simp (disch:=omega) only [push_cast,seval,h8i,hel,Aaz])|skip))
 | ((first|((with_reducible refine Amz (f:=39) false ?_);simp (disch:=omega) only [push_cast,seval,h8i,hel,Aaz];(refine Irz (bclone_ok _ _ _ _ ?_ ?_ ?_) (by (simp (disch:=omega) only [push_cast,seval,h8i,hel,Aaz]);done) ?_;(iterate 3 (exact sd)))))<;>(try simp (disch:=omega) only [push_cast,seval,h8i,hel,Aaz]))
 | ((first|refine Amz false ?_|refine Aiz false ?_);simp (disch:=omega) only [push_cast,seval,h8i,hel,Aaz])
 | ((first|((first|refine call0D (vclone_ok _ _ _ _ _ ?_ ?_ ?_) ?_|refine qcall0D (vclone_ok _ _ _ _ _ ?_ ?_ ?_) ⟨_,_,rfl,rfl⟩ ?_);(iterate 3 (exact sd));rintro _ _ ⟨rfl,rfl⟩))<;>(try simp (disch:=omega) only [push_cast,seval,h8i,hel,Aaz]))
 | (refine Akz ⟨.inr rfl,[16000,16001],[(16000,1),(16001,5)],_,by decide,rfl,?_⟩;(try simp (disch:=omega) only [push_cast,seval,↓Aqz,↓Aoz,↓List.map_cons,↓List.map_nil,h8i,hel,Aaz]))))
    all_goals simp [OBf,mkE_nil]
  · have hd:(!decide (es.length=8))=true:=by simp [h8]
    have h8i:((es.length:Int)=8)=False:=eq_false (by omega)
    rw [hd,F6z,F6z]
    (repeat' (first
 | (first|refine Ajz ?_|refine Afz ?_)
 | ((first|refine Alz ?_|refine Azz (mid:=l59r4a) (post:=l59r4b) Brz (by decide) ?_|refine Aez ?_|refine Agz ?_|refine Ahz ?_);simp (disch:=omega) only [push_cast,seval,l59r0,l59r1,l59r2,l59r3,l59r4a,l59r4b,l59r4,l59r5,h8i,hel,Aaz,zcX])
 | ((first|refine Abz ?_ ?_|refine Adz ?_ ?_|refine Acz ?_ ?_)<;>intro h<;>(try simp only [h])<;>(try simp only [bitvec_to_nat] at h)<;>(try simp only [h])<;>(first|(exfalso;omega)|(exfalso;simp_all;done)|(simp (disch:=omega) only [push_cast,seval,h8i,hel,Aaz,zcX])|skip))
 | ((first|((with_reducible refine Amz (f:=39) false ?_);simp (disch:=omega) only [push_cast,seval,h8i,hel,Aaz,zcX];(refine Irz (bclone_ok _ _ _ _ ?_ ?_ ?_) (by (simp (disch:=omega) only [push_cast,seval,h8i,hel,Aaz,zcX]);done) ?_;(iterate 3 (exact sd)))))<;>(try simp (disch:=omega) only [push_cast,seval,h8i,hel,Aaz,zcX]))
 | ((first|refine Amz false ?_|refine Aiz false ?_);simp (disch:=omega) only [push_cast,seval,h8i,hel,Aaz,zcX])
 | ((first|((first|refine call0D (vclone_ok _ _ _ _ _ ?_ ?_ ?_) ?_|refine qcall0D (vclone_ok _ _ _ _ _ ?_ ?_ ?_) ⟨_,_,rfl,rfl⟩ ?_);(iterate 3 (exact sd));rintro _ _ ⟨rfl,rfl⟩))<;>(try simp (disch:=omega) only [push_cast,seval,h8i,hel,Aaz,zcX]))))
    refine Akz ⟨.inr rfl,?_⟩
    have hR:(esF (es ++ [(p,(b,x,y),true)])).R=es.length * 2 + 2:=by rw [eF_R,List.length_append,List.length_singleton];omega
    have hl:(es ++ [(p,(b,x,y),true)]).length=es.length + 1:=by simp
    simp only [OBf,hl]
    refine ret_famG (id0:=240) (id1:=241) (F:=esF (es ++ [(p,(b,x,y),true)])) (cs:=cs) (gN 15 (es.length * 2) 320 321) (gN_inj (by omega) (by omega) (by omega)) (fun j=>⟨gN_ne (by omega) (by omega) (by omega) j,gN_ne (by omega) (by omega) (by omega) j⟩) (bufT cs.length (es.length + 1) true) rfl rfl (fun _ _ _ _ e0 e1=>ren_bufT e0 e1) rfl ?_ ?_ (by omega)
    · rw [app_cells];rfl
    · intro j hj
      rw [hR] at hj
      show hk _ (gN 15 (es.length * 2) 320 321 j)=some (IL (exR (es ++ [(p,(b,x,y),true)]) j))
      rw [exR_app]
      unfold gN
      by_cases c0:j=es.length * 2
      · rw [if_pos c0,if_pos c0];rfl
      · rw [if_neg c0,if_neg c0]
        by_cases c1:j=es.length * 2 + 1
        · rw [if_pos c1,if_pos c1];rfl
        · rw [if_neg c1,if_neg c1]
          simp only [hk,Atz _ _ 96 (by omega),Atz _ _ 128 (by omega),Atz _ _ 241 (by omega),Atz _ _ 352 (by omega),Atz _ _ 320 (by omega),Atz _ _ 321 (by omega),Atz _ _ 240 (by omega),if_false]
          exact B6z 15 (esF es) _ j (by show j < es.length * 2;omega)

end Go.Proofs.YtahdlohpncjdbaaDoor
set_option linter.unusedSimpArgs false
set_option linter.unusedVariables false
set_option maxRecDepth 4000
set_option maxHeartbeats 4000000
namespace Go.Proofs.YtahdlohpncjdbaaDoor
open VwM Vw Go
set_option linter.unusedSectionVars false
variable [SentA]

def evG (cs:List Int) (es:List Ex) (b:Int) (x y:List Int):Bool:=(vB cs es && fitB b x y cs.length) && !decide (es.length=8)


set_option maxHeartbeats 8000000 in
theorem sEV_ok (cs:List Int) (es:List Ex) (m n:Nat) (b:Int) (x y:List Int) (k l:Nat) (hm:cs.length=m) (hn:es.length=n) (hk:x.length=k) (hl:y.length=l) (hb:(k ≤ 1099511627776 ∧ l ≤ 1099511627776) ∧ m ≤ 1099511627776 ∧ n ≤ 1099511627776 ∧ exB 1099511627776 es) :
    BCall Tryd.prog 22 [.agg [.rows false (IL cs) m,.rows false (EL false es) n],.agg [.int .i64 b,.rows false (IL x) k,.rows false (IL y) l]] [] (OBs (evG cs es b x y) (ifB (evG cs es b x y) cs) (ifB (evG cs es b x y) (es ++ [(-1,(b,x,y),true)]))):=by
  subst hm hn hk hl
  obtain ⟨⟨hbx,hby⟩,hb1,hb2,hb3⟩:=hb
  have hb0:cs.length ≤ 1099511627776 ∧ es.length ≤ 1099511627776 ∧ exB 1099511627776 es:=⟨hb1,hb2,hb3⟩
  have hel:=A8z false es
  refine Baz (pins:=[]) (pin:=0) l22_eq rfl rfl rfl ?_
  unfold evG
  cases hv:vB cs es with
  | false =>
    simp only [Bool.false_and,Ciz]
    (repeat' (first
 | (first|refine Ajz ?_|refine Afz ?_)
 | ((first|refine Alz ?_|refine Aez ?_|refine Agz ?_|refine Ahz ?_);simp (disch:=omega) only [push_cast,seval,l22r0,l22r1,l22r2,l22r3,hv,hel,Aaz])
 | ((first|refine Abz ?_ ?_|refine Adz ?_ ?_|refine Acz ?_ ?_)<;>intro h<;>(try simp only [h])<;>(try simp only [bitvec_to_nat] at h)<;>(try simp only [h])<;>(first|(exfalso;omega)|(exfalso;simp_all;done)|(simp (disch:=omega) only [push_cast,seval,hv,hel,Aaz])|skip))
 | ((first|refine Amz false ?_|refine Aiz false ?_);simp (disch:=omega) only [push_cast,seval,hv,hel,Aaz])
 | ((first|((first|refine call0D (BCall.ofP (Edz _ _ _ _ ?_ ?_ ?_)) ?_|refine qcall0D (BCall.ofP (Edz _ _ _ _ ?_ ?_ ?_)) ⟨_,_,rfl,rfl⟩ ?_);(iterate 3 (exact sd));rintro _ _ ⟨rfl,rfl⟩)|((first|refine call0D (BCall.ofP (svalidView_ok _ _ _ _ _ ?_ ?_ ?_)) ?_|refine qcall0D (BCall.ofP (svalidView_ok _ _ _ _ _ ?_ ?_ ?_)) ⟨_,_,rfl,rfl⟩ ?_);(iterate 3 (exact sd));rintro _ _ ⟨rfl,rfl⟩)|((first|refine call0D (BCall.ofP (sfits2_ok _ _ _ _ _ _ ?_ ?_ ?_)) ?_|refine qcall0D (BCall.ofP (sfits2_ok _ _ _ _ _ _ ?_ ?_ ?_)) ⟨_,_,rfl,rfl⟩ ?_);(iterate 3 (exact sd));rintro _ _ ⟨rfl,rfl⟩)|((first|refine call0D (sAdB_ok _ _ _ _ _ _ _ _ _ _ ?_ ?_ ?_ ?_ ?_) ?_|refine qcall0D (sAdB_ok _ _ _ _ _ _ _ _ _ _ ?_ ?_ ?_ ?_ ?_) ⟨_,_,rfl,rfl⟩ ?_);(iterate 5 (exact sd));rintro _ _ ⟨rfl,rfl⟩))<;>(try simp (disch:=omega) only [push_cast,seval,hv,hel,Aaz]))
 | (refine Akz ⟨.inr rfl,[16000,16001],[(16000,1),(16001,5)],_,by decide,rfl,?_⟩;(try simp (disch:=omega) only [push_cast,seval,↓Aqz,↓Aoz,↓List.map_cons,↓List.map_nil,hv,hel,Aaz]))))
    all_goals simp [OBs,EL]
  | true =>
    obtain ⟨v1,v2,v3⟩:=vB_8 hv
    cases hvv:vV b x y with
    | false =>
      have hf:fitB b x y cs.length=false:=by unfold fitB;rw [hvv];rfl
      simp only [hf,Bool.and_false,Bool.false_and,Ciz]
      (repeat' (first
 | (first|refine Ajz ?_|refine Afz ?_)
 | ((first|refine Alz ?_|refine Aez ?_|refine Agz ?_|refine Ahz ?_);simp (disch:=omega) only [push_cast,seval,l22r0,l22r1,l22r2,l22r3,hv,hvv,hel,Aaz])
 | ((first|refine Abz ?_ ?_|refine Adz ?_ ?_|refine Acz ?_ ?_)<;>intro h<;>(try simp only [h])<;>(try simp only [bitvec_to_nat] at h)<;>(try simp only [h])<;>(first|(exfalso;omega)|(exfalso;simp_all;done)|(simp (disch:=omega) only [push_cast,seval,hv,hvv,hel,Aaz])|skip))
 | ((first|refine Amz false ?_|refine Aiz false ?_);simp (disch:=omega) only [push_cast,seval,hv,hvv,hel,Aaz])
 | ((first|((first|refine call0D (BCall.ofP (Edz _ _ _ _ ?_ ?_ ?_)) ?_|refine qcall0D (BCall.ofP (Edz _ _ _ _ ?_ ?_ ?_)) ⟨_,_,rfl,rfl⟩ ?_);(iterate 3 (exact sd));rintro _ _ ⟨rfl,rfl⟩)|((first|refine call0D (BCall.ofP (svalidView_ok _ _ _ _ _ ?_ ?_ ?_)) ?_|refine qcall0D (BCall.ofP (svalidView_ok _ _ _ _ _ ?_ ?_ ?_)) ⟨_,_,rfl,rfl⟩ ?_);(iterate 3 (exact sd));rintro _ _ ⟨rfl,rfl⟩)|((first|refine call0D (BCall.ofP (sfits2_ok _ _ _ _ _ _ ?_ ?_ ?_)) ?_|refine qcall0D (BCall.ofP (sfits2_ok _ _ _ _ _ _ ?_ ?_ ?_)) ⟨_,_,rfl,rfl⟩ ?_);(iterate 3 (exact sd));rintro _ _ ⟨rfl,rfl⟩)|((first|refine call0D (sAdB_ok _ _ _ _ _ _ _ _ _ _ ?_ ?_ ?_ ?_ ?_) ?_|refine qcall0D (sAdB_ok _ _ _ _ _ _ _ _ _ _ ?_ ?_ ?_ ?_ ?_) ⟨_,_,rfl,rfl⟩ ?_);(iterate 5 (exact sd));rintro _ _ ⟨rfl,rfl⟩))<;>(try simp (disch:=omega) only [push_cast,seval,hv,hvv,hel,Aaz]))
 | (refine Akz ⟨.inr rfl,[16000,16001],[(16000,1),(16001,5)],_,by decide,rfl,?_⟩;(try simp (disch:=omega) only [push_cast,seval,↓Aqz,↓Aoz,↓List.map_cons,↓List.map_nil,hv,hvv,hel,Aaz]))))
      all_goals simp [OBs,EL]
    | true =>
      have hok:=(okV_valid hvv).1
      have hf:fitB b x y cs.length=allI (offs b x y) 0 ((cs.length:Int) - 1):=by
        unfold fitB
        rw [hvv]
        have:(decide ((0:Int) ≤ cs.length) && decide ((cs.length:Int) ≤ 60))=true:=by rw [Bool.and_eq_true,decide_eq_true_eq,decide_eq_true_eq];omega
        rw [this];rfl
      rw [hf]
      cases ha:allI (offs b x y) 0 ((cs.length:Int) - 1) with
 | false =>
        simp only [Bool.and_false,Bool.false_and,Ciz]
        (repeat' (first
 | (first|refine Ajz ?_|refine Afz ?_)
 | ((first|refine Alz ?_|refine Aez ?_|refine Agz ?_|refine Ahz ?_);simp (disch:=omega) only [push_cast,seval,l22r0,l22r1,l22r2,l22r3,hv,hvv,ha,hel,Aaz])
 | ((first|refine Abz ?_ ?_|refine Adz ?_ ?_|refine Acz ?_ ?_)<;>intro h<;>(try simp only [h])<;>(try simp only [bitvec_to_nat] at h)<;>(try simp only [h])<;>(first|(exfalso;omega)|(exfalso;simp_all;done)|(simp (disch:=omega) only [push_cast,seval,hv,hvv,ha,hel,Aaz])|skip))
 | ((first|refine Amz false ?_|refine Aiz false ?_);simp (disch:=omega) only [push_cast,seval,hv,hvv,ha,hel,Aaz])
 | ((first|((first|refine call0D (BCall.ofP (Edz _ _ _ _ ?_ ?_ ?_)) ?_|refine qcall0D (BCall.ofP (Edz _ _ _ _ ?_ ?_ ?_)) ⟨_,_,rfl,rfl⟩ ?_);(iterate 3 (exact sd));rintro _ _ ⟨rfl,rfl⟩)|((first|refine call0D (BCall.ofP (svalidView_ok _ _ _ _ _ ?_ ?_ ?_)) ?_|refine qcall0D (BCall.ofP (svalidView_ok _ _ _ _ _ ?_ ?_ ?_)) ⟨_,_,rfl,rfl⟩ ?_);(iterate 3 (exact sd));rintro _ _ ⟨rfl,rfl⟩)|((first|refine call0D (BCall.ofP (sfits2_ok _ _ _ _ _ _ ?_ ?_ ?_)) ?_|refine qcall0D (BCall.ofP (sfits2_ok _ _ _ _ _ _ ?_ ?_ ?_)) ⟨_,_,rfl,rfl⟩ ?_);(iterate 3 (exact sd));rintro _ _ ⟨rfl,rfl⟩)|((first|refine call0D (sAdB_ok _ _ _ _ _ _ _ _ _ _ ?_ ?_ ?_ ?_ ?_) ?_|refine qcall0D (sAdB_ok _ _ _ _ _ _ _ _ _ _ ?_ ?_ ?_ ?_ ?_) ⟨_,_,rfl,rfl⟩ ?_);(iterate 5 (exact sd));rintro _ _ ⟨rfl,rfl⟩))<;>(try simp (disch:=omega) only [push_cast,seval,hv,hvv,ha,hel,Aaz]))
 | (refine Akz ⟨.inr rfl,[16000,16001],[(16000,1),(16001,5)],_,by decide,rfl,?_⟩;(try simp (disch:=omega) only [push_cast,seval,↓Aqz,↓Aoz,↓List.map_cons,↓List.map_nil,hv,hvv,ha,hel,Aaz]))))
        all_goals simp [OBs,EL]
 | true =>
        by_cases h8:es.length=8
        · have hd:(!decide (es.length=8))=false:=by simp [h8]
          have h8i:(es.length:Int)=8:=by omega
          simp only [hd,Bool.and_false,Ciz]
          (repeat' (first
 | (first|refine Ajz ?_|refine Afz ?_)
 | ((first|refine Alz ?_|refine Aez ?_|refine Agz ?_|refine Ahz ?_);simp (disch:=omega) only [push_cast,seval,l22r0,l22r1,l22r2,l22r3,hv,hvv,ha,h8i,hel,Aaz])
 | ((first|refine Abz ?_ ?_|refine Adz ?_ ?_|refine Acz ?_ ?_)<;>intro h<;>(try simp only [h])<;>(try simp only [bitvec_to_nat] at h)<;>(try simp only [h])<;>(first|(exfalso;omega)|(exfalso;simp_all;done)|(simp (disch:=omega) only [push_cast,seval,hv,hvv,ha,h8i,hel,Aaz])|skip))
 | ((first|refine Amz false ?_|refine Aiz false ?_);simp (disch:=omega) only [push_cast,seval,hv,hvv,ha,h8i,hel,Aaz])
 | ((first|((first|refine call0D (BCall.ofP (Edz _ _ _ _ ?_ ?_ ?_)) ?_|refine qcall0D (BCall.ofP (Edz _ _ _ _ ?_ ?_ ?_)) ⟨_,_,rfl,rfl⟩ ?_);(iterate 3 (exact sd));rintro _ _ ⟨rfl,rfl⟩)|((first|refine call0D (BCall.ofP (svalidView_ok _ _ _ _ _ ?_ ?_ ?_)) ?_|refine qcall0D (BCall.ofP (svalidView_ok _ _ _ _ _ ?_ ?_ ?_)) ⟨_,_,rfl,rfl⟩ ?_);(iterate 3 (exact sd));rintro _ _ ⟨rfl,rfl⟩)|((first|refine call0D (BCall.ofP (sfits2_ok _ _ _ _ _ _ ?_ ?_ ?_)) ?_|refine qcall0D (BCall.ofP (sfits2_ok _ _ _ _ _ _ ?_ ?_ ?_)) ⟨_,_,rfl,rfl⟩ ?_);(iterate 3 (exact sd));rintro _ _ ⟨rfl,rfl⟩)|((first|refine call0D (sAdB_ok _ _ _ _ _ _ _ _ _ _ ?_ ?_ ?_ ?_ ?_) ?_|refine qcall0D (sAdB_ok _ _ _ _ _ _ _ _ _ _ ?_ ?_ ?_ ?_ ?_) ⟨_,_,rfl,rfl⟩ ?_);(iterate 5 (exact sd));rintro _ _ ⟨rfl,rfl⟩))<;>(try simp (disch:=omega) only [push_cast,seval,hv,hvv,ha,h8i,hel,Aaz]))
 | (refine Akz ⟨.inr rfl,[16000,16001],[(16000,1),(16001,5)],_,by decide,rfl,?_⟩; (try simp (disch := omega) only [push_cast,seval,↓Aqz,↓Aoz,↓List.map_cons,↓List.map_nil,hv,hvv,ha,h8i,hel,Aaz]))))
          all_goals simp [OBs,EL]
        · have hd:(!decide (es.length=8))=true:=by simp [h8]
          have h8i:((es.length:Int)=8)=False:=eq_false (by omega)
          simp only [hd,Bool.and_true,F6z]
          (repeat' (first
 | (first|refine Ajz ?_|refine Afz ?_)
 | ((first|refine Alz ?_|refine Aez ?_|refine Agz ?_|refine Ahz ?_);simp (disch:=omega) only [push_cast,seval,l22r0,l22r1,l22r2,l22r3,hv,hvv,ha,h8i,hel,Aaz])
 | ((first|refine Abz ?_ ?_|refine Adz ?_ ?_|refine Acz ?_ ?_)<;>intro h<;>(try simp only [h])<;>(try simp only [bitvec_to_nat] at h)<;>(try simp only [h])<;>(first|(exfalso;omega)|(exfalso;simp_all;done)|(simp (disch:=omega) only [push_cast,seval,hv,hvv,ha,h8i,hel,Aaz])|skip))
 | ((first|refine Amz false ?_|refine Aiz false ?_);simp (disch:=omega) only [push_cast,seval,hv,hvv,ha,h8i,hel,Aaz])
 | ((first|((first|refine call0D (BCall.ofP (Edz _ _ _ _ ?_ ?_ ?_)) ?_|refine qcall0D (BCall.ofP (Edz _ _ _ _ ?_ ?_ ?_)) ⟨_,_,rfl,rfl⟩ ?_);(iterate 3 (exact sd));rintro _ _ ⟨rfl,rfl⟩)|((first|refine call0D (BCall.ofP (svalidView_ok _ _ _ _ _ ?_ ?_ ?_)) ?_|refine qcall0D (BCall.ofP (svalidView_ok _ _ _ _ _ ?_ ?_ ?_)) ⟨_,_,rfl,rfl⟩ ?_);(iterate 3 (exact sd));rintro _ _ ⟨rfl,rfl⟩)|((first|refine call0D (BCall.ofP (sfits2_ok _ _ _ _ _ _ ?_ ?_ ?_)) ?_|refine qcall0D (BCall.ofP (sfits2_ok _ _ _ _ _ _ ?_ ?_ ?_)) ⟨_,_,rfl,rfl⟩ ?_);(iterate 3 (exact sd));rintro _ _ ⟨rfl,rfl⟩)|((first|refine call0D (sAdB_ok _ _ _ _ _ _ _ _ _ _ ?_ ?_ ?_ ?_ ?_) ?_|refine qcall0D (sAdB_ok _ _ _ _ _ _ _ _ _ _ ?_ ?_ ?_ ?_ ?_) ⟨_,_,rfl,rfl⟩ ?_);(iterate 5 (exact sd));rintro _ _ ⟨rfl,rfl⟩))<;>(try simp (disch:=omega) only [push_cast,seval,hv,hvv,ha,h8i,hel,Aaz]))
 | (refine Akz ⟨.inr rfl,[496,497],[],_,by decide,rfl,?_⟩; (try simp (disch := omega) only [push_cast,seval,↓Aqz,↓Aoz,↓List.map_cons,↓List.map_nil,hv,hvv,ha,h8i,hel,Aaz]))))
          all_goals simp [OBs]


set_option maxHeartbeats 8000000 in
theorem iEV_ok (cs:List Int) (es:List Ex) (m n:Nat) (b:Int) (x y:List Int) (k l:Nat) (hm:cs.length=m) (hn:es.length=n) (hk:x.length=k) (hl:y.length=l) (hb:(k ≤ 1099511627776 ∧ l ≤ 1099511627776) ∧ m ≤ 1048576 ∧ n ≤ 1048576 ∧ exB 1048576 es) :
    BCall Tryd.prog 24 [.agg [.rows false (IL cs) m,.rows false (EL false es) n],.agg [.int .i64 b,.rows false (IL x) k,.rows false (IL y) l]] [] (OBf (evG cs es b x y) (ifB (evG cs es b x y) cs) (ifB (evG cs es b x y) (es ++ [(-1,(b,x,y),true)]))):=by
  subst hm hn hk hl
  obtain ⟨⟨hbx,hby⟩,hb1,hb2,hb3⟩:=hb
  have hb0:cs.length ≤ 1099511627776 ∧ es.length ≤ 1099511627776 ∧ exB 1099511627776 es:=⟨by omega,by omega,fun e he=>by have:=hb3 e he;omega⟩
  have hel:=A8z false es
  refine Baz (pins:=[]) (pin:=0) l24_eq rfl rfl rfl ?_
  unfold evG
  cases hv:vB cs es with
  | false =>
    simp only [Bool.false_and,Ciz]
    (repeat' (first
 | (first|refine Ajz ?_|refine Afz ?_)
 | ((first|refine Alz ?_|refine Aez ?_|refine Agz ?_|refine Ahz ?_);simp (disch:=omega) only [push_cast,seval,l24r0,l24r1,l24r2,l24r3,hv,hel,Aaz])
 | ((first|refine Abz ?_ ?_|refine Adz ?_ ?_|refine Acz ?_ ?_)<;>intro h<;>(try simp only [h])<;>(try simp only [bitvec_to_nat] at h)<;>(try simp only [h])<;>(first|(exfalso;omega)|(exfalso;simp_all;done)|(simp (disch:=omega) only [push_cast,seval,hv,hel,Aaz])|skip))
 | ((first|((with_reducible refine Amz (f:=59) false ?_);simp (disch:=omega) only [push_cast,seval,hv,hel,Aaz];(refine G5z (iAdB_ok _ _ _ _ _ _ _ _ _ _ ?_ ?_ ?_ ?_ ?_) (by (simp (disch:=omega) only [push_cast,seval,hv,hel,Aaz]);done) ?_;(iterate 5 (exact sd)))))<;>(try simp (disch:=omega) only [push_cast,seval,hv,hel,Aaz]))
 | ((first|refine Amz false ?_|refine Aiz false ?_);simp (disch:=omega) only [push_cast,seval,hv,hel,Aaz])
 | ((first|((first|refine call0D (BCall.ofP (Fqz _ _ _ _ ?_ ?_ ?_)) ?_|refine qcall0D (BCall.ofP (Fqz _ _ _ _ ?_ ?_ ?_)) ⟨_,_,rfl,rfl⟩ ?_);(iterate 3 (exact sd));rintro _ _ ⟨rfl,rfl⟩)|((first|refine call0D (BCall.ofP (iFitsIn_ok _ _ _ _ _ _ ?_ ?_ ?_)) ?_|refine qcall0D (BCall.ofP (iFitsIn_ok _ _ _ _ _ _ ?_ ?_ ?_)) ⟨_,_,rfl,rfl⟩ ?_);(iterate 3 (exact sd));rintro _ _ ⟨rfl,rfl⟩))<;>(try simp (disch:=omega) only [push_cast,seval,hv,hel,Aaz]))
 | (refine Akz ⟨.inr rfl,[16000,16001],[(16000,1),(16001,5)],_,by decide,rfl,?_⟩;(try simp (disch:=omega) only [push_cast,seval,↓Aqz,↓Aoz,↓List.map_cons,↓List.map_nil,hv,hel,Aaz]))))
    all_goals simp [OBf,mkE_nil]
  | true =>
    obtain ⟨v1,v2,v3⟩:=vB_8 hv
    have hadd:(x.length ≤ 1099511627776 ∧ y.length ≤ 1099511627776) ∧ cs.length ≤ 1048576 ∧ es.length ≤ 1000 ∧ exB 1048576 es:=⟨⟨hbx,hby⟩,hb1,by omega,hb3⟩
    cases hf:fitB b x y cs.length with
    | false =>
      simp only [Bool.and_false,Bool.false_and,Ciz]
      (repeat' (first
 | (first|refine Ajz ?_|refine Afz ?_)
 | ((first|refine Alz ?_|refine Aez ?_|refine Agz ?_|refine Ahz ?_);simp (disch:=omega) only [push_cast,seval,l24r0,l24r1,l24r2,l24r3,hv,hf,hel,Aaz])
 | ((first|refine Abz ?_ ?_|refine Adz ?_ ?_|refine Acz ?_ ?_)<;>intro h<;>(try simp only [h])<;>(try simp only [bitvec_to_nat] at h)<;>(try simp only [h])<;>(first|(exfalso;omega)|(exfalso;simp_all;done)|(simp (disch:=omega) only [push_cast,seval,hv,hf,hel,Aaz])|skip))
 | ((first|((with_reducible refine Amz (f:=59) false ?_);simp (disch:=omega) only [push_cast,seval,hv,hf,hel,Aaz];(refine G5z (iAdB_ok _ _ _ _ _ _ _ _ _ _ ?_ ?_ ?_ ?_ ?_) (by (simp (disch:=omega) only [push_cast,seval,hv,hf,hel,Aaz]);done) ?_;(iterate 5 (exact sd)))))<;>(try simp (disch:=omega) only [push_cast,seval,hv,hf,hel,Aaz]))
 | ((first|refine Amz false ?_|refine Aiz false ?_);simp (disch:=omega) only [push_cast,seval,hv,hf,hel,Aaz])
 | ((first|((first|refine call0D (BCall.ofP (Fqz _ _ _ _ ?_ ?_ ?_)) ?_|refine qcall0D (BCall.ofP (Fqz _ _ _ _ ?_ ?_ ?_)) ⟨_,_,rfl,rfl⟩ ?_);(iterate 3 (exact sd));rintro _ _ ⟨rfl,rfl⟩)|((first|refine call0D (BCall.ofP (iFitsIn_ok _ _ _ _ _ _ ?_ ?_ ?_)) ?_|refine qcall0D (BCall.ofP (iFitsIn_ok _ _ _ _ _ _ ?_ ?_ ?_)) ⟨_,_,rfl,rfl⟩ ?_);(iterate 3 (exact sd));rintro _ _ ⟨rfl,rfl⟩))<;>(try simp (disch:=omega) only [push_cast,seval,hv,hf,hel,Aaz]))
 | (refine Akz ⟨.inr rfl,[16000,16001],[(16000,1),(16001,5)],_,by decide,rfl,?_⟩;(try simp (disch:=omega) only [push_cast,seval,↓Aqz,↓Aoz,↓List.map_cons,↓List.map_nil,hv,hf,hel,Aaz]))))
      all_goals simp [OBf,mkE_nil]
    | true =>
      simp only [Bool.true_and]
      generalize hW1:ifB (!decide (es.length=8)) cs=W1 at *
      generalize hW2:ifB (!decide (es.length=8)) (es ++ [(-1,(b,x,y),true)])=W2 at *
      generalize hW3:(!decide (es.length=8))=W3 at *
      (repeat' (first
 | (first|refine Ajz ?_|refine Afz ?_)
 | ((first|refine Alz ?_|refine Aez ?_|refine Agz ?_|refine Ahz ?_);simp (disch:=omega) only [push_cast,seval,l24r0,l24r1,l24r2,l24r3,hv,hf,hel,Aaz,hW1,hW2,hW3])
 | ((first|refine Abz ?_ ?_|refine Adz ?_ ?_|refine Acz ?_ ?_)<;>intro h<;>(try simp only [h])<;>(try simp only [bitvec_to_nat] at h)<;>(try simp only [h])<;>(first|(exfalso;omega)|(exfalso;simp_all;done)|(simp (disch:=omega) only [push_cast,seval,hv,hf,hel,Aaz,hW1,hW2,hW3])|skip))
 | ((first|((with_reducible refine Amz (f:=59) false ?_);simp (disch:=omega) only [push_cast,seval,hv,hf,hel,Aaz,hW1,hW2,hW3];(refine G5z (iAdB_ok _ _ _ _ _ _ _ _ _ _ ?_ ?_ ?_ ?_ ?_) (by (simp (disch:=omega) only [push_cast,seval,hv,hf,hel,Aaz,hW1,hW2,hW3]);done) ?_;(iterate 5 (exact sd)))))<;>(try simp (disch:=omega) only [push_cast,seval,hv,hf,hel,Aaz,hW1,hW2,hW3]))
 | ((first|refine Amz false ?_|refine Aiz false ?_);simp (disch:=omega) only [push_cast,seval,hv,hf,hel,Aaz,hW1,hW2,hW3])
 | ((first|((first|refine call0D (BCall.ofP (Fqz _ _ _ _ ?_ ?_ ?_)) ?_|refine qcall0D (BCall.ofP (Fqz _ _ _ _ ?_ ?_ ?_)) ⟨_,_,rfl,rfl⟩ ?_);(iterate 3 (exact sd));rintro _ _ ⟨rfl,rfl⟩)|((first|refine call0D (BCall.ofP (iFitsIn_ok _ _ _ _ _ _ ?_ ?_ ?_)) ?_|refine qcall0D (BCall.ofP (iFitsIn_ok _ _ _ _ _ _ ?_ ?_ ?_)) ⟨_,_,rfl,rfl⟩ ?_);(iterate 3 (exact sd));rintro _ _ ⟨rfl,rfl⟩))<;>(try simp (disch:=omega) only [push_cast,seval,hv,hf,hel,Aaz,hW1,hW2,hW3]))))
      refine Akz ⟨.inr rfl,ret_famW (id0:=320) (id1:=321) (d:=20) (F:=esF W2) (cs:=W1) (bufT W1.length W2.length W3) rfl rfl (fun _ _ _ _ e0 e1=>ren_bufT e0 e1) rfl rfl (fun j hj=>?_) (by omega)⟩
      simp only [hk,Atz _ _ 64 (by omega),Atz _ _ 320 (by omega),Atz _ _ 321 (by omega),if_false]
      exact B6z 20 (esF W2) _ j hj

end Go.Proofs.YtahdlohpncjdbaaDoor
set_option linter.unusedSimpArgs false
set_option linter.unusedVariables false
set_option maxRecDepth 4000
set_option maxHeartbeats 4000000
namespace Go.Proofs.YtahdlohpncjdbaaDoor
open VwM Vw Go
set_option linter.unusedSectionVars false
variable [SentA]

def xfG (cs:List Int) (es:List Ex) (id v:Int):Bool:=(vB cs es && opA es id) && (decide (0 ≤ v) && decide (v ≤ 255))
def xfC (cs:List Int) (es:List Ex) (id v:Int):List Int:=filL cs (vwA es id).1 (vwA es id).2.1 (vwA es id).2.2 v
end Go.Proofs.YtahdlohpncjdbaaDoor
set_option linter.unusedSimpArgs false
set_option linter.unusedVariables false
set_option maxRecDepth 4000
set_option maxHeartbeats 4000000
namespace Go.Proofs.YtahdlohpncjdbaaDoor
open VwM Vw Go
set_option linter.unusedSectionVars false
variable [SentA]

def xcG (cs:List Int) (es:List Ex) (t f:Int):Bool:=((vB cs es && opA es t) && opA es f) && decide ((vwA es t).2.1=(vwA es f).2.1)
def xcC (cs:List Int) (es:List Ex) (t f:Int):List Int:=putL cs (offs (vwA es t).1 (vwA es t).2.1 (vwA es t).2.2) (takesL cs (offs (vwA es f).1 (vwA es f).2.1 (vwA es f).2.2))
end Go.Proofs.YtahdlohpncjdbaaDoor
set_option linter.unusedSimpArgs false
set_option linter.unusedVariables false
set_option maxRecDepth 4000
set_option maxHeartbeats 4000000
namespace Go.Proofs.YtahdlohpncjdbaaDoor
open VwM Vw Go
set_option linter.unusedSectionVars false
variable [SentA]

/-- The first cells,and zeros. -/
def rz (cs:List Int) (N i:Nat):List Int:=(List.range N).map fun j=>if j < i then cs.getD j 0 else 0
def zz (cs:List Int) (N:Nat):List Int:=(List.range N).map fun j=>cs.getD j 0
def rzG (cs:List Int) (es:List Ex) (s:Int):Bool:=(vB cs es && (decide (0 ≤ s) && decide (s ≤ 60))) && decide ((opensT es es.length).length=0)

end Go.Proofs.YtahdlohpncjdbaaDoor
set_option linter.unusedSimpArgs false
set_option linter.unusedVariables false
set_option maxRecDepth 4000
set_option maxHeartbeats 4000000
namespace Go.Proofs.YtahdlohpncjdbaaDoor
open VwM Vw Go
set_option linter.unusedSectionVars false
variable [SentA]

end Go.Proofs.YtahdlohpncjdbaaDoor
set_option linter.unusedSimpArgs false
set_option linter.unusedVariables false
set_option maxRecDepth 4000
set_option maxHeartbeats 4000000
namespace Go.Proofs.YtahdlohpncjdbaaDoor
open VwM Vw Go
set_option linter.unusedSectionVars false
variable [SentA]

theorem OBf_plain {P:Program} {f:Nat} {args:List AV} {ok:Bool} {cs:List Int} {es:List Ex} (h:BCall P f args [] (OBf ok cs es)):PCall P f args (fun r=>r=.tup [.agg [.rows true (IL cs) cs.length,.rows true (EL true es) es.length],.bool ok]):=by
  refine (BCall.plain h).mono ?_
  rintro r ⟨r0,H',⟨rfl,rfl⟩,rfl⟩
  have e0:nthH (IL cs :: (esF es).cellsG (· + 2) :: (esF es).conts) 0=some (IL cs):=rfl
  have e1:nthH (IL cs :: (esF es).cellsG (· + 2) :: (esF es).conts) 1=some ((esF es).cellsG (· + 2)):=rfl
  show AV.tup [AV.agg [AV.ren _ _ true some 3 (.own 0 cs.length 1),AV.ren _ _ true some 3 (.own 1 es.length 5)],.bool ok]=_
  rw [Cqz,Cqz,e0,e1,Duz,Duz,if_pos (by unfold IL;simp),if_pos (by rw [Blz,eF_C])]
  have e2:((esF es).cellsG (· + 2)).map (AV.ren (fun _=>none) (nthH (IL cs :: (esF es).cellsG (· + 2) :: (esF es).conts)) true some 2)=EL true es:=by
    rw [← Gzz]
    unfold Fam.cellsG Fam.plain
    rw [Bhz]
    refine A2z fun p hp=>(esF es).ren_plain fun j hj=>⟨rfl,?_⟩
    have hjR:=(esF es).ok p j hp hj
    show ((esF es).conts)[j]?=_
    unfold Fam.conts
    rw [List.getElem?_map,List.getElem?_range hjR];rfl
  have e3:(IL cs).map (AV.ren (fun _=>none) (nthH (IL cs :: (esF es).cellsG (· + 2) :: (esF es).conts)) true some 2)=IL cs:=Biz _
  rw [e2,e3]
theorem exB_app {n:Nat} {es:List Ex} {p b:Int} {x y:List Int} {o:Bool} (h:exB n es) (hx:x.length ≤ n ∧ y.length ≤ n):exB n (es ++ [(p,(b,x,y),o)]):=fun e he=>by
  rcases List.mem_append.1 he with h1|h1
  · exact h e h1
  · rw [List.mem_singleton] at h1;subst h1;exact hx
theorem dropL_fam {Z:List Nat} (hz:∀ z ∈ Z,z < 1099511627776) (d:Nat) (F:Fam) (r:List (Nat × List AV)):dropL Z (famD d F ++ r)=famD d F ++ dropL Z r:=by
  unfold famD
  have hn:∀ j,inB Z (fim d j)=false:=fun j=>by
    rw [Bool.eq_false_iff]
    intro h
    have:=hz _ (inB_iff.1 h)
    have:=Bdz d j
    omega
  have:∀ l:List Nat,dropL Z (l.map (fun j=>(fim d j,IL (F.rows j))) ++ r)=l.map (fun j=>(fim d j,IL (F.rows j))) ++ dropL Z r:=by
    intro l
    induction l with
    | nil=>rfl
    | cons a l ih=>simp only [List.map_cons,List.cons_append,Htz,hn,Bool.false_eq_true,if_false,ih]
  exact this _
theorem keepL_fam {Z:List Nat} (hz:∀ z ∈ Z,z < 1099511627776) (d:Nat) (F:Fam) (r:List (Nat × List AV)):keepL Z (famD d F ++ r)=keepL Z r:=by
  unfold famD
  have hn:∀ j,inB Z (fim d j)=false:=fun j=>by
    rw [Bool.eq_false_iff]
    intro h
    have:=hz _ (inB_iff.1 h)
    have:=Bdz d j
    omega
  have:∀ l:List Nat,keepL Z (l.map (fun j=>(fim d j,IL (F.rows j))) ++ r)=keepL Z r:=by
    intro l
    induction l with
    | nil=>rfl
    | cons a l ih=>simp only [List.map_cons,List.cons_append,Hoz,hn,Bool.false_eq_true,if_false,ih]
  exact this _
end Go.Proofs.YtahdlohpncjdbaaDoor
set_option linter.unusedSimpArgs false
set_option linter.unusedVariables false
set_option maxRecDepth 4000
set_option maxHeartbeats 4000000
namespace Go.Proofs.YtahdlohpncjdbaaDoor
open VwM Vw Go
set_option linter.unusedSectionVars false
variable [SentA]

theorem ev_len8 {cs:List Int} {es:List Ex} {b:Int} {x y:List Int} {w:Ex}:(ifB (evG cs es b x y) (es ++ [w])).length ≤ 8:=by
  cases h:evG cs es b x y with
  | false=>exact Nat.zero_le _
  | true =>
    unfold evG at h
    simp only [Bool.and_eq_true,Bool.not_eq_true',decide_eq_false_iff_not] at h
    have:=(vB_8 h.1.1).1
    rw [F6z,List.length_append,List.length_singleton]
    omega


theorem iEVP_ok (cs:List Int) (es:List Ex) (m n:Nat) (b:Int) (x y:List Int) (k l:Nat) (hm:cs.length=m) (hn:es.length=n) (hk:x.length=k) (hl:y.length=l) (hb:(k ≤ 1099511627776 ∧ l ≤ 1099511627776) ∧ m ≤ 1048576 ∧ n ≤ 1048576 ∧ exB 1048576 es) :
    PCall Tryd.prog 24 [.agg [.rows false (IL cs) m,.rows false (EL false es) n],.agg [.int .i64 b,.rows false (IL x) k,.rows false (IL y) l]] (fun r=>r=.tup [.agg [.rows true (IL (ifB (evG cs es b x y) cs)) (ifB (evG cs es b x y) cs).length,.rows true (EL true (ifB (evG cs es b x y) (es ++ [(-1,(b,x,y),true)]))) (ifB (evG cs es b x y) (es ++ [(-1,(b,x,y),true)])).length],.bool (evG cs es b x y)]) :=
  OBf_plain (iEV_ok cs es m n b x y k l hm hn hk hl hb)


theorem B5z (b:Int) (s t:List Int) (n m:Nat) (k:Int) (h1:s.length=n) (h2:t.length=m) (hk:((0 ≤ k ∧ k ≤ 1125899906842624) ∧ n ≤ 1099511627776) ∧ m ≤ 1099511627776):BCall Tryd.prog 26 [.agg [.int .i64 b,.own 0 n 1,.own 1 m 1],.int .i64 k] [IL s,IL t] (fun r H'=>r=.int .i64 (k + n + m) ∧ H'=[IL (upFrom k n),IL (upFrom (k + n) m)]):=by
  subst h1 h2
  refine Baz (pins:=[0,1]) (pin:=2) l26_eq rfl rfl rfl ?_
  (repeat' (first
 | (first|refine Ajz ?_|refine Afz ?_)
 | ((first|refine Alz ?_|refine Aez ?_|refine Agz ?_|refine Ahz ?_);simp (disch:=omega) only [push_cast,seval,l26r0,l26r1,l26r2,l26r3])
 | ((first|refine Abz ?_ ?_|refine Adz ?_ ?_|refine Acz ?_ ?_)<;>intro h<;>(try simp only [h])<;>(try simp only [bitvec_to_nat] at h)<;>(try simp only [h])<;>(first|(exfalso;omega)|(exfalso;simp_all;done)|(simp (disch:=omega) only [push_cast,seval])|skip))
 | ((first|((with_reducible refine qcallI_of (f:=42) [128] false ?_);simp (disch:=omega) only [push_cast,seval];(refine Bgz (id:=128) (Anz _ _ _ ?_ ?_) (by (simp (disch:=omega) only [push_cast,seval])<;>rfl) (by decide) ⟨_,_,rfl,rfl⟩ ?_;(iterate 2 (exact sd));rintro _ _ ⟨rfl,rfl⟩))|((with_reducible refine qcallI_of (f:=42) [192] false ?_);simp (disch:=omega) only [push_cast,seval];(refine Bgz (id:=192) (Anz _ _ _ ?_ ?_) (by (simp (disch:=omega) only [push_cast,seval])<;>rfl) (by decide) ⟨_,_,rfl,rfl⟩ ?_;(iterate 2 (exact sd));rintro _ _ ⟨rfl,rfl⟩))|((with_reducible refine qcallI_of (f:=42) [0] false ?_);simp (disch:=omega) only [push_cast,seval];(refine Bgz (id:=0) (Anz _ _ _ ?_ ?_) (by (simp (disch:=omega) only [push_cast,seval])<;>rfl) (by decide) ⟨_,_,rfl,rfl⟩ ?_;(iterate 2 (exact sd));rintro _ _ ⟨rfl,rfl⟩))|((with_reducible refine qcallI_of (f:=42) [1] false ?_);simp (disch:=omega) only [push_cast,seval];(refine Bgz (id:=1) (Anz _ _ _ ?_ ?_) (by (simp (disch:=omega) only [push_cast,seval])<;>rfl) (by decide) ⟨_,_,rfl,rfl⟩ ?_;(iterate 2 (exact sd));rintro _ _ ⟨rfl,rfl⟩))|((with_reducible refine callD_ids (f:=42) [128] false ?_);simp (disch:=omega) only [push_cast,seval];(refine Btz (id:=128) (Anz _ _ _ ?_ ?_) (by (simp (disch:=omega) only [push_cast,seval])<;>rfl) ?_;(iterate 2 (exact sd));rintro _ _ ⟨rfl,rfl⟩))|((with_reducible refine callD_ids (f:=42) [192] false ?_);simp (disch:=omega) only [push_cast,seval];(refine Btz (id:=192) (Anz _ _ _ ?_ ?_) (by (simp (disch:=omega) only [push_cast,seval])<;>rfl) ?_;(iterate 2 (exact sd));rintro _ _ ⟨rfl,rfl⟩))|((with_reducible refine callD_ids (f:=42) [0] false ?_);simp (disch:=omega) only [push_cast,seval];(refine Btz (id:=0) (Anz _ _ _ ?_ ?_) (by (simp (disch:=omega) only [push_cast,seval])<;>rfl) ?_;(iterate 2 (exact sd));rintro _ _ ⟨rfl,rfl⟩))|((with_reducible refine callD_ids (f:=42) [1] false ?_);simp (disch:=omega) only [push_cast,seval];(refine Btz (id:=1) (Anz _ _ _ ?_ ?_) (by (simp (disch:=omega) only [push_cast,seval])<;>rfl) ?_;(iterate 2 (exact sd));rintro _ _ ⟨rfl,rfl⟩)))<;>(try simp (disch:=omega) only [push_cast,seval]))
 | (refine Akz ⟨.inr rfl,[],[],_,by decide,rfl,?_⟩;(try simp (disch:=omega) only [push_cast,seval,↓Aqz,↓Aoz,↓List.map_cons,↓List.map_nil]))))


set_option maxHeartbeats 32000000 in
theorem lEV_ok (cs:List Int) (es:List Ex) (b:Int) (x y:List Int) (hm:cs.length ≤ 9223372036854775807) (hn:es.length ≤ 9223372036854775807) (hb:exB 9223372036854775807 es) (hx:x.length ≤ 9223372036854775807) (hy:y.length ≤ 9223372036854775807):PCall Tryd.prog 7 [.agg [.rows false (IL cs) cs.length,.rows false (EL false es) es.length],.agg [.int .i64 b,.rows false (IL x) x.length,.rows false (IL y) y.length]] (fun r=>r=.bool true):=by
  refine Ayz l7_eq rfl ?_
  have hq:cs.length ≤ 9223372036854775807 ∧ es.length ≤ 9223372036854775807 ∧ exB 9223372036854775807 es:=⟨hm,hn,hb⟩
  (repeat' (first
 | (first|refine Ajz ?_|refine Afz ?_)
 | ((first|refine Alz ?_|refine Azz (mid:=l7r14a) (post:=l7r14b) Brz (by decide) ?_|refine Azz (mid:=l7r16a) (post:=l7r16b) Brz (by decide) ?_|refine G6z (mid:=l7r31a) (post:=l7r31b) [240,1000000015,2000000240] Brz (by decide) ?_|refine Aez ?_|refine Agz ?_|refine Ahz ?_);simp (disch:=omega) only [push_cast,seval,l7r0,l7r1,l7r2,l7r3,l7r4,l7r5,l7r6,l7r7,l7r8a,l7r8b,l7r8,l7r9,l7r10,l7r11,l7r12,l7r13,l7r14a,l7r14b,l7r14,l7r15,l7r16a,l7r16b,l7r16,l7r17,l7r18,l7r19,l7r20,l7r21,l7r22,l7r23,l7r24,l7r25,l7r26,l7r27,l7r28,l7r29,l7r30,l7r31a,l7r31b,l7r31,l7r32,l7r33,l7r34,l7r35,l7r36,l7r37,l7r38,l7r39,l7r40,Aaz])
 | ((first|refine Abz ?_ ?_|refine Adz ?_ ?_|refine Acz ?_ ?_)<;>intro h<;>(try simp only [h])<;>(try simp only [bitvec_to_nat] at h)<;>(try simp only [h])<;>(first|(exfalso;omega)|(exfalso;simp_all;done)|(simp (disch:=omega) only [push_cast,seval,Aaz])|skip))
 | ((first|((with_reducible refine Amz (f:=10) false ?_);simp (disch:=omega) only [push_cast,seval,Aaz];(refine Irz (Fsz _ _ _ _ ?_ ?_ ?_) (by (simp (disch:=omega) only [push_cast,seval,Aaz]);done) ?_;(iterate 3 (exact sd))))|((with_reducible refine Amz (f:=24) false ?_);simp (disch:=omega) only [push_cast,seval,Aaz];(refine G5z (iEV_ok _ _ _ _ _ _ _ _ _ ?_ ?_ ?_ ?_ ?_) (by (simp (disch:=omega) only [push_cast,seval,Aaz]);done) ?_;(iterate 5 (exact sd))))|((with_reducible refine Cuz (f:=13) ?_);simp (disch:=omega) only [push_cast,seval,Aaz];(refine callFMX (Egz _ _ _ _ _ ?_ ?_ ?_ ?_) (by (simp (disch:=omega) only [push_cast,seval,Aaz])<;>rfl) (by (simp (disch:=omega) only [push_cast,seval,Aaz])<;>rfl) (by first|((simp (disch:=omega) only [push_cast,seval,Aaz]);done)|omega) (by first|((simp (disch:=omega) only [push_cast,seval,Aaz]);done)|((simp (disch:=omega) only [push_cast,seval,Aaz]);assumption)) (by rw [C8z]<;>omega) (Ifz _ _) ?_;(iterate 4 (exact sd))))|((with_reducible refine callD_ids (f:=26) [608,609] false ?_);simp (disch:=omega) only [push_cast,seval,Aaz];(refine Hwz (id:=608) (id':=609) (by decide) (B5z _ _ _ _ _ _ ?_ ?_ ?_) (by (simp (disch:=omega) only [push_cast,seval,Aaz])<;>rfl) (by (simp (disch:=omega) only [push_cast,seval,Aaz])<;>rfl) ?_;(iterate 3 (exact sd));rintro _ _ ⟨rfl,rfl⟩))|((with_reducible refine callD_ids (f:=26) [1056,1057] false ?_);simp (disch:=omega) only [push_cast,seval,Aaz];(refine Hwz (id:=1056) (id':=1057) (by decide) (B5z _ _ _ _ _ _ ?_ ?_ ?_) (by (simp (disch:=omega) only [push_cast,seval,Aaz])<;>rfl) (by (simp (disch:=omega) only [push_cast,seval,Aaz])<;>rfl) ?_;(iterate 3 (exact sd));rintro _ _ ⟨rfl,rfl⟩))|((with_reducible refine callD_ids (f:=26) [1104,1105] false ?_);simp (disch:=omega) only [push_cast,seval,Aaz];(refine Hwz (id:=1104) (id':=1105) (by decide) (B5z _ _ _ _ _ _ ?_ ?_ ?_) (by (simp (disch:=omega) only [push_cast,seval,Aaz])<;>rfl) (by (simp (disch:=omega) only [push_cast,seval,Aaz])<;>rfl) ?_;(iterate 3 (exact sd));rintro _ _ ⟨rfl,rfl⟩)))<;>(try simp (disch:=omega) only [push_cast,seval,Aaz]))
 | ((first|refine Amz false ?_|refine Aiz false ?_);simp (disch:=omega) only [push_cast,seval,Aaz])
 | ((first|(refine call0D (BCall.ofP (F9z _ _ _ _ _ ?_ ?_ ?_ ?_)) ?_;(iterate 4 (exact sd));rintro _ _ ⟨⟨z3,hz3,rfl⟩,rfl⟩)|((first|refine call0D (BCall.ofP (szView_ok _ _ _ _ _ _ ?_ ?_)) ?_|refine qcall0D (BCall.ofP (szView_ok _ _ _ _ _ _ ?_ ?_)) ⟨_,_,rfl,rfl⟩ ?_);(iterate 2 (exact sd));rintro _ _ ⟨rfl,rfl⟩)|((first|refine call0D (BCall.ofP (toBufferP_ok _ _ _ _ ?_ ?_ ?_)) ?_|refine qcall0D (BCall.ofP (toBufferP_ok _ _ _ _ ?_ ?_ ?_)) ⟨_,_,rfl,rfl⟩ ?_);(iterate 3 (exact sd));rintro _ _ ⟨rfl,rfl⟩)|((first|refine call0D (toView_ok _ _ _ _ _ ?_ ?_ ?_) ?_|refine qcall0D (toView_ok _ _ _ _ _ ?_ ?_ ?_) ⟨_,_,rfl,rfl⟩ ?_);(iterate 3 (exact sd));rintro _ _ ⟨rfl,rfl⟩)|((first|refine call0D (sEV_ok _ _ _ _ _ _ _ _ _ ?_ ?_ ?_ ?_ ?_) ?_|refine qcall0D (sEV_ok _ _ _ _ _ _ _ _ _ ?_ ?_ ?_ ?_ ?_) ⟨_,_,rfl,rfl⟩ ?_);(iterate 5 (exact sd));rintro _ _ ⟨rfl,rfl⟩)|((first|refine call0D (BCall.ofP (iEVP_ok _ _ _ _ _ _ _ _ _ ?_ ?_ ?_ ?_ ?_)) ?_|refine qcall0D (BCall.ofP (iEVP_ok _ _ _ _ _ _ _ _ _ ?_ ?_ ?_ ?_ ?_)) ⟨_,_,rfl,rfl⟩ ?_);(iterate 5 (exact sd));rintro _ _ ⟨rfl,rfl⟩)|((first|refine call0D (BCall.ofP (eqBuffer_ok _ _ _ _ ?_ ?_ ?_)) ?_|refine qcall0D (BCall.ofP (eqBuffer_ok _ _ _ _ ?_ ?_ ?_)) ⟨_,_,rfl,rfl⟩ ?_);(iterate 3 (exact sd));rintro _ _ ⟨rfl,rfl⟩)|((first|refine call0D (BCall.ofP (eqView_ok _ _ _ _ _ _ _ _ _ _ ?_ ?_ ?_ ?_ ?_)) ?_|refine qcall0D (BCall.ofP (eqView_ok _ _ _ _ _ _ _ _ _ _ ?_ ?_ ?_ ?_ ?_)) ⟨_,_,rfl,rfl⟩ ?_);(iterate 5 (exact sd));rintro _ _ ⟨rfl,rfl⟩)|((first|refine call0D (BCall.ofP (heldBuffer_ok _ _ _ _ ?_ ?_ ?_)) ?_|refine qcall0D (BCall.ofP (heldBuffer_ok _ _ _ _ ?_ ?_ ?_)) ⟨_,_,rfl,rfl⟩ ?_);(iterate 3 (exact sd));rintro _ _ ⟨rfl,rfl⟩))<;>(try simp (disch:=omega) only [push_cast,seval,Aaz]))
 | (refine Akz ⟨.inr rfl,_,rfl,?_⟩;(try simp (disch:=omega) only [push_cast,seval,Aaz]))))
  obtain ⟨hz5,hz6,hz7,hz8⟩:=hz3 (by assumption)
  have hxy:x.length ≤ 1048576 ∧ y.length ≤ 1048576:=by
    by_cases h9:z3 - (x.length:Int) - y.length < 0
    · simp [h9] at h
    · omega
  have q1:cs.length ≤ 1048576 ∧ es.length ≤ 1048576 ∧ exB 1048576 es:=⟨hz6,hz7,hz8⟩
  have q2:cs.length ≤ 1099511627776 ∧ es.length ≤ 1099511627776 ∧ exB 1099511627776 es:=⟨by omega,by omega,fun e he=>by have:=hz8 e he;omega⟩
  have q3:cs.length ≤ 1048576 ∧ es.length ≤ 1048576 ∧ ∀ j,(exR es j).length ≤ 1048576:=⟨hz6,hz7,exR_b hz8⟩
  have q6:(x.length ≤ 1099511627776 ∧ y.length ≤ 1099511627776) ∧ cs.length ≤ 1048576 ∧ es.length ≤ 1048576 ∧ exB 1048576 es:=⟨⟨by omega,by omega⟩,q1⟩
  have q7:(x.length ≤ 1099511627776 ∧ y.length ≤ 1099511627776) ∧ cs.length ≤ 1099511627776 ∧ es.length ≤ 1099511627776 ∧ exB 1099511627776 es:=⟨⟨by omega,by omega⟩,q2⟩
  have c1:=ifB_le (evG cs es b x y) cs
  have c2:=ev_len8 (cs:=cs) (es:=es) (b:=b) (x:=x) (y:=y) (w:=(-1,(b,x,y),true))
  have hE:exB 1048576 (es ++ [(-1,(b,x,y),true)]):=exB_app hz8 hxy
  have q5:(ifB (evG cs es b x y) cs).length ≤ 1048576 ∧ (ifB (evG cs es b x y) (es ++ [(-1,(b,x,y),true)])).length ≤ 1048576 ∧ exB 1048576 (ifB (evG cs es b x y) (es ++ [(-1,(b,x,y),true)])):=⟨by omega,by omega,exB_ifB _ hE⟩
  have q4:(ifB (evG cs es b x y) cs).length ≤ 1048576 ∧ (ifB (evG cs es b x y) (es ++ [(-1,(b,x,y),true)])).length ≤ 1048576 ∧ ∀ j,(exR (ifB (evG cs es b x y) (es ++ [(-1,(b,x,y),true)])) j).length ≤ 1048576:=⟨by omega,by omega,exR_b q5.2.2⟩
  generalize hW1:ifB (evG cs es b x y) cs=W1 at *
  generalize hW2:ifB (evG cs es b x y) (es ++ [(-1,(b,x,y),true)])=W2 at *
  generalize hW3:evG cs es b x y=W3 at *
  have k1:=kA_le (k:=1 + (cs.length:Int)) q3.2.2 es.length
  have k2:=kA_le (k:=1 + (W1.length:Int)) q4.2.2 W2.length
  have hdr:∀ (d:Nat) (F:Fam) (r:List (Nat × List AV)),dropL [240,1000000015,2000000240] (famD d F ++ r)=famD d F ++ dropL [240,1000000015,2000000240] r:=fun d F r=>dropL_fam (by decide) d F r
  have hke:∀ (d:Nat) (F:Fam) (r:List (Nat × List AV)),keepL [240,1000000015,2000000240] (famD d F ++ r)=keepL [240,1000000015,2000000240] r:=fun d F r=>keepL_fam (by decide) d F r
  (repeat' (first
 | (first|refine Ajz ?_|refine Afz ?_)
 | ((first|refine Alz ?_|refine G6z (mid:=l7r8a) (post:=l7r8b) [96,1000000006,2000000096] Brz (by decide) ?_|refine Azz (mid:=l7r14a) (post:=l7r14b) Brz (by decide) ?_|refine Azz (mid:=l7r16a) (post:=l7r16b) Brz (by decide) ?_|refine G6z (mid:=l7r31a) (post:=l7r31b) [240,1000000015,2000000240] Brz (by decide) ?_|refine Aez ?_|refine Agz ?_|refine Ahz ?_);simp (disch:=omega) only [push_cast,seval,l7r0,l7r1,l7r2,l7r3,l7r4,l7r5,l7r6,l7r7,l7r8a,l7r8b,l7r8,l7r9,l7r10,l7r11,l7r12,l7r13,l7r14a,l7r14b,l7r14,l7r15,l7r16a,l7r16b,l7r16,l7r17,l7r18,l7r19,l7r20,l7r21,l7r22,l7r23,l7r24,l7r25,l7r26,l7r27,l7r28,l7r29,l7r30,l7r31a,l7r31b,l7r31,l7r32,l7r33,l7r34,l7r35,l7r36,l7r37,l7r38,l7r39,l7r40,hdr,hke,Aaz,decide_true,hW1,hW2,hW3,bne_self_eq_false,Auz])
 | ((first|refine Abz ?_ ?_|refine Adz ?_ ?_|refine Acz ?_ ?_)<;>intro h<;>(try simp only [h])<;>(try simp only [bitvec_to_nat] at h)<;>(try simp only [h])<;>(first|(exfalso;omega)|(exfalso;simp_all;done)|(simp (disch:=omega) only [push_cast,seval,hdr,hke,Aaz,decide_true,hW1,hW2,hW3,bne_self_eq_false,Auz])|skip))
 | ((first|((with_reducible refine Amz (f:=10) false ?_);simp (disch:=omega) only [push_cast,seval,hdr,hke,Aaz,decide_true,hW1,hW2,hW3,bne_self_eq_false,Auz];(refine Irz (Fsz _ _ _ _ ?_ ?_ ?_) (by (simp (disch:=omega) only [push_cast,seval,hdr,hke,Aaz,decide_true,hW1,hW2,hW3,bne_self_eq_false,Auz]);done) ?_;(iterate 3 (exact sd))))|((with_reducible refine Amz (f:=24) false ?_);simp (disch:=omega) only [push_cast,seval,hdr,hke,Aaz,decide_true,hW1,hW2,hW3,bne_self_eq_false,Auz];(refine G5z (iEV_ok _ _ _ _ _ _ _ _ _ ?_ ?_ ?_ ?_ ?_) (by (simp (disch:=omega) only [push_cast,seval,hdr,hke,Aaz,decide_true,hW1,hW2,hW3,bne_self_eq_false,Auz]);done) ?_;(iterate 5 (exact sd))))|((with_reducible refine Cuz (f:=13) ?_);simp (disch:=omega) only [push_cast,seval,hdr,hke,Aaz,decide_true,hW1,hW2,hW3,bne_self_eq_false,Auz];(refine callFMX (Egz _ _ _ _ _ ?_ ?_ ?_ ?_) (by (simp (disch:=omega) only [push_cast,seval,hdr,hke,Aaz,decide_true,hW1,hW2,hW3,bne_self_eq_false,Auz])<;>rfl) (by (simp (disch:=omega) only [push_cast,seval,hdr,hke,Aaz,decide_true,hW1,hW2,hW3,bne_self_eq_false,Auz])<;>rfl) (by first|((simp (disch:=omega) only [push_cast,seval,hdr,hke,Aaz,decide_true,hW1,hW2,hW3,bne_self_eq_false,Auz]);done)|omega) (by first|((simp (disch:=omega) only [push_cast,seval,hdr,hke,Aaz,decide_true,hW1,hW2,hW3,bne_self_eq_false,Auz]);done)|((simp (disch:=omega) only [push_cast,seval,hdr,hke,Aaz,decide_true,hW1,hW2,hW3,bne_self_eq_false,Auz]);assumption)) (by rw [C8z]<;>omega) (Ifz _ _) ?_;(iterate 4 (exact sd))))|((with_reducible refine callD_ids (f:=26) [608,609] false ?_);simp (disch:=omega) only [push_cast,seval,hdr,hke,Aaz,decide_true,hW1,hW2,hW3,bne_self_eq_false,Auz];(refine Hwz (id:=608) (id':=609) (by decide) (B5z _ _ _ _ _ _ ?_ ?_ ?_) (by (simp (disch:=omega) only [push_cast,seval,hdr,hke,Aaz,decide_true,hW1,hW2,hW3,bne_self_eq_false,Auz])<;>rfl) (by (simp (disch:=omega) only [push_cast,seval,hdr,hke,Aaz,decide_true,hW1,hW2,hW3,bne_self_eq_false,Auz])<;>rfl) ?_;(iterate 3 (exact sd));rintro _ _ ⟨rfl,rfl⟩))|((with_reducible refine callD_ids (f:=26) [1056,1057] false ?_);simp (disch:=omega) only [push_cast,seval,hdr,hke,Aaz,decide_true,hW1,hW2,hW3,bne_self_eq_false,Auz];(refine Hwz (id:=1056) (id':=1057) (by decide) (B5z _ _ _ _ _ _ ?_ ?_ ?_) (by (simp (disch:=omega) only [push_cast,seval,hdr,hke,Aaz,decide_true,hW1,hW2,hW3,bne_self_eq_false,Auz])<;>rfl) (by (simp (disch:=omega) only [push_cast,seval,hdr,hke,Aaz,decide_true,hW1,hW2,hW3,bne_self_eq_false,Auz])<;>rfl) ?_;(iterate 3 (exact sd));rintro _ _ ⟨rfl,rfl⟩))|((with_reducible refine callD_ids (f:=26) [1104,1105] false ?_);simp (disch:=omega) only [push_cast,seval,hdr,hke,Aaz,decide_true,hW1,hW2,hW3,bne_self_eq_false,Auz];(refine Hwz (id:=1104) (id':=1105) (by decide) (B5z _ _ _ _ _ _ ?_ ?_ ?_) (by (simp (disch:=omega) only [push_cast,seval,hdr,hke,Aaz,decide_true,hW1,hW2,hW3,bne_self_eq_false,Auz])<;>rfl) (by (simp (disch:=omega) only [push_cast,seval,hdr,hke,Aaz,decide_true,hW1,hW2,hW3,bne_self_eq_false,Auz])<;>rfl) ?_;(iterate 3 (exact sd));rintro _ _ ⟨rfl,rfl⟩)))<;>(try simp (disch:=omega) only [push_cast,seval,hdr,hke,Aaz,decide_true,hW1,hW2,hW3,bne_self_eq_false,Auz]))
 | ((first|refine Amz false ?_|refine Aiz false ?_);simp (disch:=omega) only [push_cast,seval,hdr,hke,Aaz,decide_true,hW1,hW2,hW3,bne_self_eq_false,Auz])
 | ((first|(refine call0D (BCall.ofP (F9z _ _ _ _ _ ?_ ?_ ?_ ?_)) ?_;(iterate 4 (exact sd));rintro _ _ ⟨⟨z3,hz3,rfl⟩,rfl⟩)|((first|refine call0D (BCall.ofP (szView_ok _ _ _ _ _ _ ?_ ?_)) ?_|refine qcall0D (BCall.ofP (szView_ok _ _ _ _ _ _ ?_ ?_)) ⟨_,_,rfl,rfl⟩ ?_);(iterate 2 (exact sd));rintro _ _ ⟨rfl,rfl⟩)|((first|refine call0D (BCall.ofP (toBufferP_ok _ _ _ _ ?_ ?_ ?_)) ?_|refine qcall0D (BCall.ofP (toBufferP_ok _ _ _ _ ?_ ?_ ?_)) ⟨_,_,rfl,rfl⟩ ?_);(iterate 3 (exact sd));rintro _ _ ⟨rfl,rfl⟩)|((first|refine call0D (toView_ok _ _ _ _ _ ?_ ?_ ?_) ?_|refine qcall0D (BCall.ofP (plainV (toView_ok _ _ _ _ _ ?_ ?_ ?_))) ⟨_,_,rfl,rfl⟩ ?_);(iterate 3 (exact sd));rintro _ _ ⟨rfl,rfl⟩)|((first|refine call0D (sEV_ok _ _ _ _ _ _ _ _ _ ?_ ?_ ?_ ?_ ?_) ?_|refine qcall0D (sEV_ok _ _ _ _ _ _ _ _ _ ?_ ?_ ?_ ?_ ?_) ⟨_,_,rfl,rfl⟩ ?_);(iterate 5 (exact sd));rintro _ _ ⟨rfl,rfl⟩)|((first|refine call0D (BCall.ofP (iEVP_ok _ _ _ _ _ _ _ _ _ ?_ ?_ ?_ ?_ ?_)) ?_|refine qcall0D (BCall.ofP (iEVP_ok _ _ _ _ _ _ _ _ _ ?_ ?_ ?_ ?_ ?_)) ⟨_,_,rfl,rfl⟩ ?_);(iterate 5 (exact sd));rintro _ _ ⟨rfl,rfl⟩)|((first|refine call0D (BCall.ofP (eqBuffer_ok _ _ _ _ ?_ ?_ ?_)) ?_|refine qcall0D (BCall.ofP (eqBuffer_ok _ _ _ _ ?_ ?_ ?_)) ⟨_,_,rfl,rfl⟩ ?_);(iterate 3 (exact sd));rintro _ _ ⟨rfl,rfl⟩)|((first|refine call0D (BCall.ofP (eqView_ok _ _ _ _ _ _ _ _ _ _ ?_ ?_ ?_ ?_ ?_)) ?_|refine qcall0D (BCall.ofP (eqView_ok _ _ _ _ _ _ _ _ _ _ ?_ ?_ ?_ ?_ ?_)) ⟨_,_,rfl,rfl⟩ ?_);(iterate 5 (exact sd));rintro _ _ ⟨rfl,rfl⟩)|((first|refine call0D (BCall.ofP (heldBuffer_ok _ _ _ _ ?_ ?_ ?_)) ?_|refine qcall0D (BCall.ofP (heldBuffer_ok _ _ _ _ ?_ ?_ ?_)) ⟨_,_,rfl,rfl⟩ ?_);(iterate 3 (exact sd));rintro _ _ ⟨rfl,rfl⟩))<;>(try simp (disch:=omega) only [push_cast,seval,hdr,hke,Aaz,decide_true,hW1,hW2,hW3,bne_self_eq_false,Auz]))
 | (refine Akz ⟨.inr rfl,_,rfl,?_⟩;(try simp (disch:=omega) only [push_cast,seval,hdr,hke,Aaz,decide_true,hW1,hW2,hW3,bne_self_eq_false,Auz]))))

theorem lEV2_ok (x0:List Int) (x1:List ExT) (g:Vw.goodS Vw.goodI x0 ∧ Vw.goodS (fun p:ExT=>Vw.goodI p.1 ∧ (Vw.goodI p.2.1.1 ∧ Vw.goodS Vw.goodI p.2.1.2.1 ∧ Vw.goodS Vw.goodI p.2.1.2.2.1 ∧ True) ∧ True ∧ True) x1 ∧ True) (b:Int) (x y:List Int) (hx:x.length ≤ 9223372036854775807) (hy:y.length ≤ 9223372036854775807) :
    PCall Tryd.prog 7 [.agg (Vw.enS Vw.enI x0 ++ (Vw.enS (fun p:ExT=>Vw.enI p.1 ++ ((Vw.enI p.2.1.1 ++ (Vw.enS Vw.enI p.2.1.2.1 ++ (Vw.enS Vw.enI p.2.1.2.2.1 ++ []))) ++ (Vw.enB p.2.2.1 ++ []))) x1 ++ [])),.agg [.int .i64 b,.rows false (IL x) x.length,.rows false (IL y) y.length]] (fun r=>r=.bool true):=by
  have h:=lEV_ok x0 (x1.map exT) b x y g.1.2 (by simpa using g.2.1.2) (exB_T g.2.1.1) hx hy
  rw [en_B]
  exact h

end Go.Proofs.YtahdlohpncjdbaaDoor
