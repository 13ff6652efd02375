/- Texts of this verifier. -/
import Derived.Test.YtahdlohpncjdbaaGreatDoorCB10
import Derived.Test.YtahdlohpncjdbaaGreatDoorCM1
import Derived.Test.YtahdlohpncjdbaaGreatDoorCW3
set_option linter.unusedSimpArgs false
set_option linter.unusedVariables false
set_option maxRecDepth 4000
set_option maxHeartbeats 4000000
namespace Go.Proofs.YtahdlohpncjdbaaGreatDoor
open VwM Vw Go
set_option linter.unusedSectionVars false
variable [SentA]



set_option maxHeartbeats 8000000 in
theorem sAdB_ok (cs:List Int) (es:List Ex) (m n:Nat) (p b:Int) (x y:List Int) (k l:Nat) (hm:cs.length=m) (hn:es.length=n) (hk:x.length=k) (hl:y.length=l) (hb:(k ≤ 1099511627776 ∧ l ≤ 1099511627776) ∧ m ≤ 1099511627776 ∧ n ≤ 1000 ∧ exB 1099511627776 es) :
    BCall Tryz.prog 17 [.agg [.rows false (IL cs) m,.rows false (EL false es) n],.int .i64 p,.agg [.int .i64 b,.rows false (IL x) k,.rows false (IL y) l]] [] (fun r H'=>r=.agg [.own 0 m 1,.own 1 (n + 1) 5] ∧ H'=[IL cs,EL true (es ++ [(p,(b,x,y),true)])]):=by
  subst hm hn hk hl
  obtain ⟨⟨hbx,hby⟩,hb1,hb2,hb3⟩:=hb
  have hq:cs.length ≤ 1099511627776 ∧ es.length ≤ 1099511627776 ∧ exB 1099511627776 es:=⟨hb1,by omega,hb3⟩
  have hel:=Bbz true es
  have ha:=Ipz true es [(p,(b,x,y),true)]
  simp only [EL] at ha
  refine A4z (pins:=[]) (pin:=0) l17_eq rfl rfl rfl ?_
  (repeat' (first
 | (first|refine Ajz ?_|refine Afz ?_)
 | ((first|refine Akz ?_|refine Aqz (mid:=l17r2a) (post:=l17r2b) Ayz (by decide) ?_|refine Aez ?_|refine Agz ?_|refine Ahz ?_);simp (disch:=omega) only [push_cast,seval,l17r0,l17r1,l17r2a,l17r2b,l17r2,l17r3,hel,ha,Abz,zcX,List.map_append,List.length_map])
 | ((first|refine Aaz ?_ ?_|refine Adz ?_ ?_|refine Acz ?_ ?_)<;>intro h<;>(try simp only [h])<;>(try simp only [bitvec_to_nat] at h)<;>(try simp only [h])<;>(first|(exfalso;omega)|(exfalso;simp_all;done)|(simp (disch:=omega) only [push_cast,seval,hel,ha,Abz,zcX,List.map_append,List.length_map])|skip))
 | ((first|refine Amz false ?_|refine Alz false ?_);simp (disch:=omega) only [push_cast,seval,hel,ha,Abz,zcX,List.map_append,List.length_map])
 | ((first|((first|refine call0D (scB_ok _ _ _ _ ?_ ?_ ?_) ?_|refine qcall0D (scB_ok _ _ _ _ ?_ ?_ ?_) ⟨_,_,rfl,rfl⟩ ?_);(iterate 3 (exact sd));rintro _ _ ⟨rfl,rfl⟩)|((first|refine call0D (scopyView_ok _ _ _ _ _ ?_ ?_ ?_) ?_|refine qcall0D (scopyView_ok _ _ _ _ _ ?_ ?_ ?_) ⟨_,_,rfl,rfl⟩ ?_);(iterate 3 (exact sd));rintro _ _ ⟨rfl,rfl⟩))<;>(try simp (disch:=omega) only [push_cast,seval,hel,ha,Abz,zcX,List.map_append,List.length_map]))
 | (refine Aiz ⟨.inr rfl,[144,145],[],_,by decide,rfl,?_⟩;(try simp (disch:=omega) only [push_cast,seval,↓Apz,↓Anz,↓List.map_cons,↓List.map_nil,hel,ha,Abz,zcX,List.map_append,List.length_map]))))
  all_goals (try exact ⟨rfl,rfl⟩)
  all_goals (try rfl)


set_option maxHeartbeats 8000000 in
theorem iAdB_ok (cs:List Int) (es:List Ex) (m n:Nat) (p b:Int) (x y:List Int) (k l:Nat) (hm:cs.length=m) (hn:es.length=n) (hk:x.length=k) (hl:y.length=l) (hb:(k ≤ 1099511627776 ∧ l ≤ 1099511627776) ∧ m ≤ 1048576 ∧ n ≤ 1000 ∧ exB 1048576 es) :
    BCall Tryz.prog 22 [.agg [.rows false (IL cs) m,.rows false (EL false es) n],.int .i64 p,.agg [.int .i64 b,.rows false (IL x) k,.rows false (IL y) l]] [] (OBf (!decide (n=8)) (ifB (!decide (n=8)) cs) (ifB (!decide (n=8)) (es ++ [(p,(b,x,y),true)]))):=by
  subst hm hn hk hl
  obtain ⟨⟨hbx,hby⟩,hb1,hb2,hb3⟩:=hb
  have hq:cs.length ≤ 1048576 ∧ es.length ≤ 1048576 ∧ exB 1048576 es:=⟨hb1,by omega,hb3⟩
  have hel:=Bbz false es
  refine A4z (pins:=[]) (pin:=0) l22_eq rfl rfl rfl ?_
  by_cases h8:es.length=8
  · have hd:(!decide (es.length=8))=false:=by simp [h8]
    have h8i:(es.length:Int)=8:=by omega
    rw [hd,C5z,C5z]
    (repeat' (first
 | (first|refine Ajz ?_|refine Afz ?_)
 | ((first|refine Akz ?_|refine Aqz (mid:=l22r4a) (post:=l22r4b) Ayz (by decide) ?_|refine Aez ?_|refine Agz ?_|refine Ahz ?_);simp (disch:=omega) only [push_cast,seval,l22r0,l22r1,l22r2,l22r3,l22r4a,l22r4b,l22r4,l22r5,h8i,hel,Abz])
 | ((first|refine Aaz ?_ ?_|refine Adz ?_ ?_|refine Acz ?_ ?_)<;>intro h<;>(try simp only [h])<;>(try simp only [bitvec_to_nat] at h)<;>(try simp only [h])<;>(first|(exfalso;omega)|(exfalso;simp_all;done)|(simp (disch:=omega) only [push_cast,seval,h8i,hel,Abz])|skip))
 | ((first|((with_reducible refine Amz (f:=50) false ?_);simp (disch:=omega) only [push_cast,seval,h8i,hel,Abz];(refine Egz (bclone_ok _ _ _ _ ?_ ?_ ?_) (by (simp (disch:=omega) only [push_cast,seval,h8i,hel,Abz]);done) ?_;(iterate 3 (exact sd)))))<;>(try simp (disch:=omega) only [push_cast,seval,h8i,hel,Abz]))
 | ((first|refine Amz false ?_|refine Alz false ?_);simp (disch:=omega) only [push_cast,seval,h8i,hel,Abz])
 | ((first|((first|refine call0D (vclone_ok _ _ _ _ _ ?_ ?_ ?_) ?_|refine qcall0D (vclone_ok _ _ _ _ _ ?_ ?_ ?_) ⟨_,_,rfl,rfl⟩ ?_);(iterate 3 (exact sd));rintro _ _ ⟨rfl,rfl⟩))<;>(try simp (disch:=omega) only [push_cast,seval,h8i,hel,Abz]))
 | (refine Aiz ⟨.inr rfl,[16000,16001],[(16000,1),(16001,5)],_,by decide,rfl,?_⟩;(try simp (disch:=omega) only [push_cast,seval,↓Apz,↓Anz,↓List.map_cons,↓List.map_nil,h8i,hel,Abz]))))
    all_goals simp [OBf,mkE_nil]
  · have hd:(!decide (es.length=8))=true:=by simp [h8]
    have h8i:((es.length:Int)=8)=False:=eq_false (by omega)
    rw [hd,Hez,Hez]
    (repeat' (first
 | (first|refine Ajz ?_|refine Afz ?_)
 | ((first|refine Akz ?_|refine Aqz (mid:=l22r4a) (post:=l22r4b) Ayz (by decide) ?_|refine Aez ?_|refine Agz ?_|refine Ahz ?_);simp (disch:=omega) only [push_cast,seval,l22r0,l22r1,l22r2,l22r3,l22r4a,l22r4b,l22r4,l22r5,h8i,hel,Abz,zcX])
 | ((first|refine Aaz ?_ ?_|refine Adz ?_ ?_|refine Acz ?_ ?_)<;>intro h<;>(try simp only [h])<;>(try simp only [bitvec_to_nat] at h)<;>(try simp only [h])<;>(first|(exfalso;omega)|(exfalso;simp_all;done)|(simp (disch:=omega) only [push_cast,seval,h8i,hel,Abz,zcX])|skip))
 | ((first|((with_reducible refine Amz (f:=50) false ?_);simp (disch:=omega) only [push_cast,seval,h8i,hel,Abz,zcX];(refine Egz (bclone_ok _ _ _ _ ?_ ?_ ?_) (by (simp (disch:=omega) only [push_cast,seval,h8i,hel,Abz,zcX]);done) ?_;(iterate 3 (exact sd)))))<;>(try simp (disch:=omega) only [push_cast,seval,h8i,hel,Abz,zcX]))
 | ((first|refine Amz false ?_|refine Alz false ?_);simp (disch:=omega) only [push_cast,seval,h8i,hel,Abz,zcX])
 | ((first|((first|refine call0D (vclone_ok _ _ _ _ _ ?_ ?_ ?_) ?_|refine qcall0D (vclone_ok _ _ _ _ _ ?_ ?_ ?_) ⟨_,_,rfl,rfl⟩ ?_);(iterate 3 (exact sd));rintro _ _ ⟨rfl,rfl⟩))<;>(try simp (disch:=omega) only [push_cast,seval,h8i,hel,Abz,zcX]))))
    refine Aiz ⟨.inr rfl,?_⟩
    have hR:(esF (es ++ [(p,(b,x,y),true)])).R=es.length * 2 + 2:=by rw [eF_R,List.length_append,List.length_singleton];omega
    have hl:(es ++ [(p,(b,x,y),true)]).length=es.length + 1:=by simp
    simp only [OBf,hl]
    refine ret_famG (id0:=240) (id1:=241) (F:=esF (es ++ [(p,(b,x,y),true)])) (cs:=cs) (gN 15 (es.length * 2) 320 321) (gN_inj (by omega) (by omega) (by omega)) (fun j=>⟨gN_ne (by omega) (by omega) (by omega) j,gN_ne (by omega) (by omega) (by omega) j⟩) (bufT cs.length (es.length + 1) true) rfl rfl (fun _ _ _ _ e0 e1=>ren_bufT e0 e1) rfl ?_ ?_ (by omega)
    · rw [app_cells];rfl
    · intro j hj
      rw [hR] at hj
      show hk _ (gN 15 (es.length * 2) 320 321 j)=some (IL (exR (es ++ [(p,(b,x,y),true)]) j))
      rw [exR_app]
      unfold gN
      by_cases c0:j=es.length * 2
      · rw [if_pos c0,if_pos c0];rfl
      · rw [if_neg c0,if_neg c0]
        by_cases c1:j=es.length * 2 + 1
        · rw [if_pos c1,if_pos c1];rfl
        · rw [if_neg c1,if_neg c1]
          simp only [hk,Axz _ _ 96 (by omega),Axz _ _ 128 (by omega),Axz _ _ 241 (by omega),Axz _ _ 352 (by omega),Axz _ _ 320 (by omega),Axz _ _ 321 (by omega),Axz _ _ 240 (by omega),if_false]
          exact Cpz 15 (esF es) _ j (by show j < es.length * 2;omega)

end Go.Proofs.YtahdlohpncjdbaaGreatDoor
set_option linter.unusedSimpArgs false
set_option linter.unusedVariables false
set_option maxRecDepth 4000
set_option maxHeartbeats 4000000
namespace Go.Proofs.YtahdlohpncjdbaaGreatDoor
open VwM Vw Go
set_option linter.unusedSectionVars false
variable [SentA]

def evG (cs:List Int) (es:List Ex) (b:Int) (x y:List Int):Bool:=(vB cs es && fitB b x y cs.length) && !decide (es.length=8)

end Go.Proofs.YtahdlohpncjdbaaGreatDoor
set_option linter.unusedSimpArgs false
set_option linter.unusedVariables false
set_option maxRecDepth 4000
set_option maxHeartbeats 4000000
namespace Go.Proofs.YtahdlohpncjdbaaGreatDoor
open VwM Vw Go
set_option linter.unusedSectionVars false
variable [SentA]

def epO (es:List Ex) (id d f t w:Int) (hf ht:Bool):Bool:=sdOk (vwA es id).1 (vwA es id).2.1 (vwA es id).2.2 d f t w hf ht
def epG (cs:List Int) (es:List Ex) (id d f t w:Int) (hf ht:Bool):Bool:=((vB cs es && opA es id) && !decide (es.length=8)) && epO es id d f t w hf ht
def epV (es:List Ex) (id d f t w:Int) (hf ht:Bool):Vw3:=(cutB (vwA es id).1 (vwA es id).2.1 (vwA es id).2.2 d.toNat f t w hf ht,cutSh (vwA es id).2.1 d.toNat f t w hf ht,cutSt (vwA es id).2.1 (vwA es id).2.2 d.toNat f t w hf ht)
def epE (es:List Ex) (id d f t w:Int) (hf ht:Bool):List Ex:=es ++ [(id,epV es id d f t w hf ht,true)]
theorem cutSt_lenE (sh st:List Int) (j:Nat) (f t w:Int) (hf ht:Bool):(cutSt sh st j f t w hf ht).length ≤ max sh.length st.length:=by
  unfold cutSt;split<;>simp<;>omega
theorem EL_tak3 {es:List Ex} {q:Nat} {p b:Int} {x y:List Int} {o:Bool} (he:es[q]?=some (p,(b,x,y),o)):((EL false es).drop (q * 5 + 1)).take 3=[.int .i64 b,.rows false (IL x) x.length,.rows false (IL y) y.length]:=by
  have hd:=Cjz false es q he
  simp only at hd
  have:=congrArg (fun l=>(l.drop 1).take 3) hd
  simpa [List.drop_take,List.drop_drop,List.take_take] using this
theorem J5z {sh st:List Int} {d:Nat} {f t w:Int} {hf ht:Bool} {k:Nat} (h1:sh.length ≤ k) (h2:st.length ≤ k):(cutSh sh d f t w hf ht).length ≤ k ∧ (cutSt sh st d f t w hf ht).length ≤ k:=by
  refine ⟨by rw [B3z];exact h1,?_⟩
  have:=cutSt_lenE sh st d f t w hf ht
  omega


set_option maxHeartbeats 8000000 in
theorem sEP_ok (cs:List Int) (es:List Ex) (m n:Nat) (id d f t w:Int) (hf ht:Bool) (hm:cs.length=m) (hn:es.length=n) (hb:m ≤ 1099511627776 ∧ n ≤ 1099511627776 ∧ exB 1099511627776 es) :
    BCall Tryz.prog 5 [.agg [.rows false (IL cs) m,.rows false (EL false es) n],.int .i64 id,.int .i64 d,slc f t w hf ht] [] (OBs (epG cs es id d f t w hf ht) (ifB (epG cs es id d f t w hf ht) cs) (ifB (epG cs es id d f t w hf ht) (epE es id d f t w hf ht))):=by
  subst hm hn
  have hb0:=hb
  obtain ⟨hb1,hb2,hb3⟩:=hb
  have hel:=Bbz false es
  refine A4z (pins:=[]) (pin:=0) l5_eq rfl rfl rfl ?_
  unfold epG
  cases hv:vB cs es with
  | false =>
    simp only [Bool.false_and,C5z]
    (repeat' (first
 | (first|refine Ajz ?_|refine Afz ?_)
 | ((first|refine Akz ?_|refine A8z (mid:=l5r3a) (post:=l5r3b) [160,1000000010,2000000160] Ayz (by decide) ?_|refine Aez ?_|refine Agz ?_|refine Ahz ?_);simp (disch:=omega) only [push_cast,seval,l5r0,l5r1,l5r2,l5r3a,l5r3b,l5r3,l5r4,l5r5,l5r6,hv,hel,Abz])
 | ((first|refine Aaz ?_ ?_|refine Adz ?_ ?_|refine Acz ?_ ?_)<;>intro h<;>(try simp only [h])<;>(try simp only [bitvec_to_nat] at h)<;>(try simp only [h])<;>(first|(exfalso;omega)|(exfalso;simp_all;done)|(simp (disch:=omega) only [push_cast,seval,hv,hel,Abz])|skip))
 | ((first|refine Amz false ?_|refine Alz false ?_);simp (disch:=omega) only [push_cast,seval,hv,hel,Abz])
 | ((first|((first|refine call0D (BCall.ofP (Fdz _ _ _ _ ?_ ?_ ?_)) ?_|refine qcall0D (BCall.ofP (Fdz _ _ _ _ ?_ ?_ ?_)) ⟨_,_,rfl,rfl⟩ ?_);(iterate 3 (exact sd));rintro _ _ ⟨rfl,rfl⟩)|((first|refine call0D (BCall.ofP (siO_ok _ _ _ _ _ ?_ ?_ ?_)) ?_|refine qcall0D (BCall.ofP (siO_ok _ _ _ _ _ ?_ ?_ ?_)) ⟨_,_,rfl,rfl⟩ ?_);(iterate 3 (exact sd));rintro _ _ ⟨rfl,rfl⟩)|((first|refine call0D (sSliceDim_ok _ _ _ _ _ _ _ _ _ _ _ ?_ ?_ ?_) ?_|refine qcall0D (sSliceDim_ok _ _ _ _ _ _ _ _ _ _ _ ?_ ?_ ?_) ⟨_,_,rfl,rfl⟩ ?_);(iterate 3 (exact sd));rintro _ _ ⟨rfl,rfl⟩)|((first|refine call0D (sAdB_ok _ _ _ _ _ _ _ _ _ _ ?_ ?_ ?_ ?_ ?_) ?_|refine qcall0D (sAdB_ok _ _ _ _ _ _ _ _ _ _ ?_ ?_ ?_ ?_ ?_) ⟨_,_,rfl,rfl⟩ ?_);(iterate 5 (exact sd));rintro _ _ ⟨rfl,rfl⟩))<;>(try simp (disch:=omega) only [push_cast,seval,hv,hel,Abz]))
 | (refine Aiz ⟨.inr rfl,[16000,16001],[(16000,1),(16001,5)],_,by decide,rfl,?_⟩;(try simp (disch:=omega) only [push_cast,seval,↓Apz,↓Anz,↓List.map_cons,↓List.map_nil,hv,hel,Abz]))))
    all_goals simp [OBs,EL]
  | true =>
    obtain ⟨v1,v2,v3⟩:=vB_8 hv
    cases hr:opA es id with
    | false =>
      simp only [Bool.true_and,Bool.false_and,C5z]
      (repeat' (first
 | (first|refine Ajz ?_|refine Afz ?_)
 | ((first|refine Akz ?_|refine A8z (mid:=l5r3a) (post:=l5r3b) [160,1000000010,2000000160] Ayz (by decide) ?_|refine Aez ?_|refine Agz ?_|refine Ahz ?_);simp (disch:=omega) only [push_cast,seval,l5r0,l5r1,l5r2,l5r3a,l5r3b,l5r3,l5r4,l5r5,l5r6,hv,hr,hel,Abz])
 | ((first|refine Aaz ?_ ?_|refine Adz ?_ ?_|refine Acz ?_ ?_)<;>intro h<;>(try simp only [h])<;>(try simp only [bitvec_to_nat] at h)<;>(try simp only [h])<;>(first|(exfalso;omega)|(exfalso;simp_all;done)|(simp (disch:=omega) only [push_cast,seval,hv,hr,hel,Abz])|skip))
 | ((first|refine Amz false ?_|refine Alz false ?_);simp (disch:=omega) only [push_cast,seval,hv,hr,hel,Abz])
 | ((first|((first|refine call0D (BCall.ofP (Fdz _ _ _ _ ?_ ?_ ?_)) ?_|refine qcall0D (BCall.ofP (Fdz _ _ _ _ ?_ ?_ ?_)) ⟨_,_,rfl,rfl⟩ ?_);(iterate 3 (exact sd));rintro _ _ ⟨rfl,rfl⟩)|((first|refine call0D (BCall.ofP (siO_ok _ _ _ _ _ ?_ ?_ ?_)) ?_|refine qcall0D (BCall.ofP (siO_ok _ _ _ _ _ ?_ ?_ ?_)) ⟨_,_,rfl,rfl⟩ ?_);(iterate 3 (exact sd));rintro _ _ ⟨rfl,rfl⟩)|((first|refine call0D (sSliceDim_ok _ _ _ _ _ _ _ _ _ _ _ ?_ ?_ ?_) ?_|refine qcall0D (sSliceDim_ok _ _ _ _ _ _ _ _ _ _ _ ?_ ?_ ?_) ⟨_,_,rfl,rfl⟩ ?_);(iterate 3 (exact sd));rintro _ _ ⟨rfl,rfl⟩)|((first|refine call0D (sAdB_ok _ _ _ _ _ _ _ _ _ _ ?_ ?_ ?_ ?_ ?_) ?_|refine qcall0D (sAdB_ok _ _ _ _ _ _ _ _ _ _ ?_ ?_ ?_ ?_ ?_) ⟨_,_,rfl,rfl⟩ ?_);(iterate 5 (exact sd));rintro _ _ ⟨rfl,rfl⟩))<;>(try simp (disch:=omega) only [push_cast,seval,hv,hr,hel,Abz]))
 | (refine Aiz ⟨.inr rfl,[16000,16001],[(16000,1),(16001,5)],_,by decide,rfl,?_⟩;(try simp (disch:=omega) only [push_cast,seval,↓Apz,↓Anz,↓List.map_cons,↓List.map_nil,hv,hr,hel,Abz]))))
      all_goals simp [OBs,EL]
    | true =>
      simp only [Bool.true_and]
      by_cases h8:es.length=8
      · have hd:(!decide (es.length=8))=false:=by simp [h8]
        have h8i:(es.length:Int)=8:=by omega
        simp only [hd,Bool.false_and,C5z]
        (repeat' (first
 | (first|refine Ajz ?_|refine Afz ?_)
 | ((first|refine Akz ?_|refine A8z (mid:=l5r3a) (post:=l5r3b) [160,1000000010,2000000160] Ayz (by decide) ?_|refine Aez ?_|refine Agz ?_|refine Ahz ?_);simp (disch:=omega) only [push_cast,seval,l5r0,l5r1,l5r2,l5r3a,l5r3b,l5r3,l5r4,l5r5,l5r6,hv,hr,h8i,hel,Abz])
 | ((first|refine Aaz ?_ ?_|refine Adz ?_ ?_|refine Acz ?_ ?_)<;>intro h<;>(try simp only [h])<;>(try simp only [bitvec_to_nat] at h)<;>(try simp only [h])<;>(first|(exfalso;omega)|(exfalso;simp_all;done)|(simp (disch:=omega) only [push_cast,seval,hv,hr,h8i,hel,Abz])|skip))
 | ((first|refine Amz false ?_|refine Alz false ?_);simp (disch:=omega) only [push_cast,seval,hv,hr,h8i,hel,Abz])
 | ((first|((first|refine call0D (BCall.ofP (Fdz _ _ _ _ ?_ ?_ ?_)) ?_|refine qcall0D (BCall.ofP (Fdz _ _ _ _ ?_ ?_ ?_)) ⟨_,_,rfl,rfl⟩ ?_);(iterate 3 (exact sd));rintro _ _ ⟨rfl,rfl⟩)|((first|refine call0D (BCall.ofP (siO_ok _ _ _ _ _ ?_ ?_ ?_)) ?_|refine qcall0D (BCall.ofP (siO_ok _ _ _ _ _ ?_ ?_ ?_)) ⟨_,_,rfl,rfl⟩ ?_);(iterate 3 (exact sd));rintro _ _ ⟨rfl,rfl⟩)|((first|refine call0D (sSliceDim_ok _ _ _ _ _ _ _ _ _ _ _ ?_ ?_ ?_) ?_|refine qcall0D (sSliceDim_ok _ _ _ _ _ _ _ _ _ _ _ ?_ ?_ ?_) ⟨_,_,rfl,rfl⟩ ?_);(iterate 3 (exact sd));rintro _ _ ⟨rfl,rfl⟩)|((first|refine call0D (sAdB_ok _ _ _ _ _ _ _ _ _ _ ?_ ?_ ?_ ?_ ?_) ?_|refine qcall0D (sAdB_ok _ _ _ _ _ _ _ _ _ _ ?_ ?_ ?_ ?_ ?_) ⟨_,_,rfl,rfl⟩ ?_);(iterate 5 (exact sd));rintro _ _ ⟨rfl,rfl⟩))<;>(try simp (disch:=omega) only [push_cast,seval,hv,hr,h8i,hel,Abz]))
 | (refine Aiz ⟨.inr rfl,[16000,16001],[(16000,1),(16001,5)],_,by decide,rfl,?_⟩;(try simp (disch:=omega) only [push_cast,seval,↓Apz,↓Anz,↓List.map_cons,↓List.map_nil,hv,hr,h8i,hel,Abz]))))
        all_goals simp [OBs,EL]
      · have hd:(!decide (es.length=8))=true:=by simp [h8]
        have h8i:((es.length:Int)=8)=False:=eq_false (by omega)
        simp only [hd,Bool.true_and]
        obtain ⟨q,p,b,x,y,rfl,hq,he,hvw⟩:=opA_at hr
        have hbb:=Diz hb3 he
        have hil:q * 5 + 5 ≤ es.length * 5:=by omega
        have h3:=EL_tak3 he
        have hcl:=J5z (d:=d.toNat) (f:=f) (t:=t) (w:=w) (hf:=hf) (ht:=ht) hbb.1 hbb.2
        unfold epO epE epV
        simp only [hvw]
        generalize hcB:cutB b x y d.toNat f t w hf ht=cB at *
        generalize hcS:cutSh x d.toNat f t w hf ht=cS at *
        generalize hcT:cutSt x y d.toNat f t w hf ht=cT at *
        cases hx:sdOk b x y d f t w hf ht with
        | false =>
          simp only [C5z]
          (repeat' (first
 | (first|refine Ajz ?_|refine Afz ?_)
 | ((first|refine Akz ?_|refine A8z (mid:=l5r3a) (post:=l5r3b) [160,1000000010,2000000160] Ayz (by decide) ?_|refine Aez ?_|refine Agz ?_|refine Ahz ?_);simp (disch:=omega) only [push_cast,seval,l5r0,l5r1,l5r2,l5r3a,l5r3b,l5r3,l5r4,l5r5,l5r6,hv,hr,h8i,h3,hx,hil,hel,Abz,B1z,B0z])
 | ((first|refine Aaz ?_ ?_|refine Adz ?_ ?_|refine Acz ?_ ?_)<;>intro h<;>(try simp only [h])<;>(try simp only [bitvec_to_nat] at h)<;>(try simp only [h])<;>(first|(exfalso;omega)|(exfalso;simp_all;done)|(simp (disch:=omega) only [push_cast,seval,hv,hr,h8i,h3,hx,hil,hel,Abz,B1z,B0z])|skip))
 | ((first|refine Amz false ?_|refine Alz false ?_);simp (disch:=omega) only [push_cast,seval,hv,hr,h8i,h3,hx,hil,hel,Abz,B1z,B0z])
 | ((first|((first|refine call0D (BCall.ofP (Fdz _ _ _ _ ?_ ?_ ?_)) ?_|refine qcall0D (BCall.ofP (Fdz _ _ _ _ ?_ ?_ ?_)) ⟨_,_,rfl,rfl⟩ ?_);(iterate 3 (exact sd));rintro _ _ ⟨rfl,rfl⟩)|((first|refine call0D (BCall.ofP (siO_ok _ _ _ _ _ ?_ ?_ ?_)) ?_|refine qcall0D (BCall.ofP (siO_ok _ _ _ _ _ ?_ ?_ ?_)) ⟨_,_,rfl,rfl⟩ ?_);(iterate 3 (exact sd));rintro _ _ ⟨rfl,rfl⟩)|((first|refine call0D (sSliceDim_ok _ _ _ _ _ _ _ _ _ _ _ ?_ ?_ ?_) ?_|refine qcall0D (sSliceDim_ok _ _ _ _ _ _ _ _ _ _ _ ?_ ?_ ?_) ⟨_,_,rfl,rfl⟩ ?_);(iterate 3 (exact sd));rintro _ _ ⟨rfl,rfl⟩)|((first|refine call0D (sAdB_ok _ _ _ _ _ _ _ _ _ _ ?_ ?_ ?_ ?_ ?_) ?_|refine qcall0D (sAdB_ok _ _ _ _ _ _ _ _ _ _ ?_ ?_ ?_ ?_ ?_) ⟨_,_,rfl,rfl⟩ ?_);(iterate 5 (exact sd));rintro _ _ ⟨rfl,rfl⟩))<;>(try simp (disch:=omega) only [push_cast,seval,hv,hr,h8i,h3,hx,hil,hel,Abz,B1z,B0z]))
 | (refine Aiz ⟨.inr rfl,[16000,16001],[(16000,1),(16001,5)],_,by decide,rfl,?_⟩; (try simp (disch := omega) only [push_cast,seval,↓Apz,↓Anz,↓List.map_cons,↓List.map_nil,hv,hr,h8i,h3,hx,hil,hel,Abz,B1z,B0z]))))
          all_goals simp [OBs,EL]
        | true =>
          simp only [Hez]
          have hadd:(cS.length ≤ 1099511627776 ∧ cT.length ≤ 1099511627776) ∧ cs.length ≤ 1099511627776 ∧ es.length ≤ 1000 ∧ exB 1099511627776 es:=⟨hcl,hb1,by omega,hb3⟩
          (repeat' (first
 | (first|refine Ajz ?_|refine Afz ?_)
 | ((first|refine Akz ?_|refine A8z (mid:=l5r3a) (post:=l5r3b) [160,1000000010,2000000160] Ayz (by decide) ?_|refine Aez ?_|refine Agz ?_|refine Ahz ?_);simp (disch:=omega) only [push_cast,seval,l5r0,l5r1,l5r2,l5r3a,l5r3b,l5r3,l5r4,l5r5,l5r6,hv,hr,h8i,h3,hx,hil,hcB,hcS,hcT,hel,Abz,Cnz,Cmz])
 | ((first|refine Aaz ?_ ?_|refine Adz ?_ ?_|refine Acz ?_ ?_)<;>intro h<;>(try simp only [h])<;>(try simp only [bitvec_to_nat] at h)<;>(try simp only [h])<;>(first|(exfalso;omega)|(exfalso;simp_all;done)|(simp (disch:=omega) only [push_cast,seval,hv,hr,h8i,h3,hx,hil,hcB,hcS,hcT,hel,Abz,Cnz,Cmz])|skip))
 | ((first|refine Amz false ?_|refine Alz false ?_);simp (disch:=omega) only [push_cast,seval,hv,hr,h8i,h3,hx,hil,hcB,hcS,hcT,hel,Abz,Cnz,Cmz])
 | ((first|((first|refine call0D (BCall.ofP (Fdz _ _ _ _ ?_ ?_ ?_)) ?_|refine qcall0D (BCall.ofP (Fdz _ _ _ _ ?_ ?_ ?_)) ⟨_,_,rfl,rfl⟩ ?_);(iterate 3 (exact sd));rintro _ _ ⟨rfl,rfl⟩)|((first|refine call0D (BCall.ofP (siO_ok _ _ _ _ _ ?_ ?_ ?_)) ?_|refine qcall0D (BCall.ofP (siO_ok _ _ _ _ _ ?_ ?_ ?_)) ⟨_,_,rfl,rfl⟩ ?_);(iterate 3 (exact sd));rintro _ _ ⟨rfl,rfl⟩)|((first|refine call0D (sSliceDim_ok _ _ _ _ _ _ _ _ _ _ _ ?_ ?_ ?_) ?_|refine qcall0D (sSliceDim_ok _ _ _ _ _ _ _ _ _ _ _ ?_ ?_ ?_) ⟨_,_,rfl,rfl⟩ ?_);(iterate 3 (exact sd));rintro _ _ ⟨rfl,rfl⟩)|((first|refine call0D (sAdB_ok _ _ _ _ _ _ _ _ _ _ ?_ ?_ ?_ ?_ ?_) ?_|refine qcall0D (sAdB_ok _ _ _ _ _ _ _ _ _ _ ?_ ?_ ?_ ?_ ?_) ⟨_,_,rfl,rfl⟩ ?_);(iterate 5 (exact sd));rintro _ _ ⟨rfl,rfl⟩))<;>(try simp (disch:=omega) only [push_cast,seval,hv,hr,h8i,h3,hx,hil,hcB,hcS,hcT,hel,Abz,Cnz,Cmz]))
 | (refine Aiz ⟨.inr rfl,[736,737],[],_,by decide,rfl,?_⟩; (try simp (disch := omega) only [push_cast,seval,↓Apz,↓Anz,↓List.map_cons,↓List.map_nil,hv,hr,h8i,h3,hx,hil,hcB,hcS,hcT,hel,Abz,Cnz,Cmz]))))
          all_goals simp [OBs]


set_option maxHeartbeats 8000000 in
theorem G5z (cs:List Int) (es:List Ex) (m n:Nat) (id d f t w:Int) (hf ht:Bool) (hm:cs.length=m) (hn:es.length=n) (hb:m ≤ 1048576 ∧ n ≤ 1048576 ∧ exB 1048576 es) :
    BCall Tryz.prog 8 [.agg [.rows false (IL cs) m,.rows false (EL false es) n],.int .i64 id,.int .i64 d,slc f t w hf ht] [] (OBf (epG cs es id d f t w hf ht) (ifB (epG cs es id d f t w hf ht) cs) (ifB (epG cs es id d f t w hf ht) (epE es id d f t w hf ht))):=by
  subst hm hn
  have hb0:=hb
  obtain ⟨hb1,hb2,hb3⟩:=hb
  have hq8:cs.length ≤ 1099511627776 ∧ es.length ≤ 1099511627776 ∧ exB 1099511627776 es:=⟨by omega,by omega,fun e he=>by have:=hb3 e he;omega⟩
  have hel:=Bbz false es
  refine A4z (pins:=[]) (pin:=0) l8_eq rfl rfl rfl ?_
  unfold epG
  cases hc:(vB cs es && opA es id) with
  | false =>
    simp only [Bool.false_and,C5z]
    (repeat' (first
 | (first|refine Ajz ?_|refine Afz ?_)
 | ((first|refine Akz ?_|refine A8z (mid:=l8r3a) (post:=l8r3b) [160,1000000010,2000000160] Ayz (by decide) ?_|refine Aez ?_|refine Agz ?_|refine Ahz ?_);simp (disch:=omega) only [push_cast,seval,l8r0,l8r1,l8r2,l8r3a,l8r3b,l8r3,l8r4,l8r5,l8r6,hc,hel,Abz])
 | ((first|refine Aaz ?_ ?_|refine Adz ?_ ?_|refine Acz ?_ ?_)<;>intro h<;>(try simp only [h])<;>(try simp only [bitvec_to_nat] at h)<;>(try simp only [h])<;>(first|(exfalso;omega)|(exfalso;simp_all;done)|(simp (disch:=omega) only [push_cast,seval,hc,hel,Abz])|skip))
 | ((first|((with_reducible refine Amz (f:=22) false ?_);simp (disch:=omega) only [push_cast,seval,hc,hel,Abz];(refine Dyz (iAdB_ok _ _ _ _ _ _ _ _ _ _ ?_ ?_ ?_ ?_ ?_) (by (simp (disch:=omega) only [push_cast,seval,hc,hel,Abz]);done) ?_;(iterate 5 (exact sd)))))<;>(try simp (disch:=omega) only [push_cast,seval,hc,hel,Abz]))
 | ((first|refine Amz false ?_|refine Alz false ?_);simp (disch:=omega) only [push_cast,seval,hc,hel,Abz])
 | ((first|((first|refine call0D (BCall.ofP (I4z _ _ _ _ _ ?_ ?_ ?_)) ?_|refine qcall0D (BCall.ofP (I4z _ _ _ _ _ ?_ ?_ ?_)) ⟨_,_,rfl,rfl⟩ ?_);(iterate 3 (exact sd));rintro _ _ ⟨rfl,rfl⟩)|((first|refine call0D (iSliceDim_ok _ _ _ _ _ _ _ _ _ _ _ ?_ ?_ ?_) ?_|refine qcall0D (iSliceDim_ok _ _ _ _ _ _ _ _ _ _ _ ?_ ?_ ?_) ⟨_,_,rfl,rfl⟩ ?_);(iterate 3 (exact sd));rintro _ _ ⟨rfl,rfl⟩))<;>(try simp (disch:=omega) only [push_cast,seval,hc,hel,Abz]))
 | (refine Aiz ⟨.inr rfl,[16000,16001],[(16000,1),(16001,5)],_,by decide,rfl,?_⟩;(try simp (disch:=omega) only [push_cast,seval,↓Apz,↓Anz,↓List.map_cons,↓List.map_nil,hc,hel,Abz]))))
    all_goals simp [OBf,mkE_nil]
  | true =>
    have hc2:=hc
    rw [Bool.and_eq_true] at hc2
    obtain ⟨hv,hr⟩:=hc2
    obtain ⟨v1,v2,v3⟩:=vB_8 hv
    obtain ⟨q,p,b,x,y,rfl,hq,he,hvw⟩:=opA_at hr
    have hbb:=Diz hb3 he
    have hil:q * 5 + 5 ≤ es.length * 5:=by omega
    have h3:=EL_tak3 he
    have hcl:=J5z (d:=d.toNat) (f:=f) (t:=t) (w:=w) (hf:=hf) (ht:=ht) hbb.1 hbb.2
    unfold epO epE epV
    simp only [hvw,Bool.true_and]
    generalize hcB:cutB b x y d.toNat f t w hf ht=cB at *
    generalize hcS:cutSh x d.toNat f t w hf ht=cS at *
    generalize hcT:cutSt x y d.toNat f t w hf ht=cT at *
    cases hx:sdOk b x y d f t w hf ht with
    | false =>
      simp only [Bool.and_false,C5z]
      (repeat' (first
 | (first|refine Ajz ?_|refine Afz ?_)
 | ((first|refine Akz ?_|refine A8z (mid:=l8r3a) (post:=l8r3b) [160,1000000010,2000000160] Ayz (by decide) ?_|refine Aez ?_|refine Agz ?_|refine Ahz ?_);simp (disch:=omega) only [push_cast,seval,l8r0,l8r1,l8r2,l8r3a,l8r3b,l8r3,l8r4,l8r5,l8r6,hc,h3,hx,hil,hel,Abz,B1z,B0z])
 | ((first|refine Aaz ?_ ?_|refine Adz ?_ ?_|refine Acz ?_ ?_)<;>intro h<;>(try simp only [h])<;>(try simp only [bitvec_to_nat] at h)<;>(try simp only [h])<;>(first|(exfalso;omega)|(exfalso;simp_all;done)|(simp (disch:=omega) only [push_cast,seval,hc,h3,hx,hil,hel,Abz,B1z,B0z])|skip))
 | ((first|((with_reducible refine Amz (f:=22) false ?_);simp (disch:=omega) only [push_cast,seval,hc,h3,hx,hil,hel,Abz,B1z,B0z];(refine Dyz (iAdB_ok _ _ _ _ _ _ _ _ _ _ ?_ ?_ ?_ ?_ ?_) (by (simp (disch:=omega) only [push_cast,seval,hc,h3,hx,hil,hel,Abz,B1z,B0z]);done) ?_;(iterate 5 (exact sd)))))<;>(try simp (disch:=omega) only [push_cast,seval,hc,h3,hx,hil,hel,Abz,B1z,B0z]))
 | ((first|refine Amz false ?_|refine Alz false ?_);simp (disch:=omega) only [push_cast,seval,hc,h3,hx,hil,hel,Abz,B1z,B0z])
 | ((first|((first|refine call0D (BCall.ofP (I4z _ _ _ _ _ ?_ ?_ ?_)) ?_|refine qcall0D (BCall.ofP (I4z _ _ _ _ _ ?_ ?_ ?_)) ⟨_,_,rfl,rfl⟩ ?_);(iterate 3 (exact sd));rintro _ _ ⟨rfl,rfl⟩)|((first|refine call0D (iSliceDim_ok _ _ _ _ _ _ _ _ _ _ _ ?_ ?_ ?_) ?_|refine qcall0D (iSliceDim_ok _ _ _ _ _ _ _ _ _ _ _ ?_ ?_ ?_) ⟨_,_,rfl,rfl⟩ ?_);(iterate 3 (exact sd));rintro _ _ ⟨rfl,rfl⟩))<;>(try simp (disch:=omega) only [push_cast,seval,hc,h3,hx,hil,hel,Abz,B1z,B0z]))
 | (refine Aiz ⟨.inr rfl,[16000,16001],[(16000,1),(16001,5)],_,by decide,rfl,?_⟩;(try simp (disch:=omega) only [push_cast,seval,↓Apz,↓Anz,↓List.map_cons,↓List.map_nil,hc,h3,hx,hil,hel,Abz,B1z,B0z]))))
      all_goals simp [OBf,mkE_nil]
    | true =>
      simp only [Bool.and_true]
      have hadd:(cS.length ≤ 1099511627776 ∧ cT.length ≤ 1099511627776) ∧ cs.length ≤ 1048576 ∧ es.length ≤ 1000 ∧ exB 1048576 es:=⟨⟨by omega,by omega⟩,hb1,by omega,hb3⟩
      generalize hW1:ifB (!decide (es.length=8)) cs=W1 at *
      generalize hW2:ifB (!decide (es.length=8)) (es ++ [((q:Int),(cB,cS,cT),true)])=W2 at *
      generalize hW3:(!decide (es.length=8))=W3 at *
      (repeat' (first
 | (first|refine Ajz ?_|refine Afz ?_)
 | ((first|refine Akz ?_|refine A8z (mid:=l8r3a) (post:=l8r3b) [160,1000000010,2000000160] Ayz (by decide) ?_|refine Aez ?_|refine Agz ?_|refine Ahz ?_);simp (disch:=omega) only [push_cast,seval,l8r0,l8r1,l8r2,l8r3a,l8r3b,l8r3,l8r4,l8r5,l8r6,hc,h3,hx,hil,hcB,hcS,hcT,hel,Abz,Cnz,Cmz,hW1,hW2,hW3])
 | ((first|refine Aaz ?_ ?_|refine Adz ?_ ?_|refine Acz ?_ ?_)<;>intro h<;>(try simp only [h])<;>(try simp only [bitvec_to_nat] at h)<;>(try simp only [h])<;>(first|(exfalso;omega)|(exfalso;simp_all;done)|(simp (disch:=omega) only [push_cast,seval,hc,h3,hx,hil,hcB,hcS,hcT,hel,Abz,Cnz,Cmz,hW1,hW2,hW3])|skip))
 | ((first|((with_reducible refine Amz (f:=22) false ?_);simp (disch:=omega) only [push_cast,seval,hc,h3,hx,hil,hcB,hcS,hcT,hel,Abz,Cnz,Cmz,hW1,hW2,hW3];(refine Dyz (iAdB_ok _ _ _ _ _ _ _ _ _ _ ?_ ?_ ?_ ?_ ?_) (by (simp (disch:=omega) only [push_cast,seval,hc,h3,hx,hil,hcB,hcS,hcT,hel,Abz,Cnz,Cmz,hW1,hW2,hW3]);done) ?_;(iterate 5 (exact sd)))))<;>(try simp (disch:=omega) only [push_cast,seval,hc,h3,hx,hil,hcB,hcS,hcT,hel,Abz,Cnz,Cmz,hW1,hW2,hW3]))
 | ((first|refine Amz false ?_|refine Alz false ?_);simp (disch:=omega) only [push_cast,seval,hc,h3,hx,hil,hcB,hcS,hcT,hel,Abz,Cnz,Cmz,hW1,hW2,hW3])
 | ((first|((first|refine call0D (BCall.ofP (I4z _ _ _ _ _ ?_ ?_ ?_)) ?_|refine qcall0D (BCall.ofP (I4z _ _ _ _ _ ?_ ?_ ?_)) ⟨_,_,rfl,rfl⟩ ?_);(iterate 3 (exact sd));rintro _ _ ⟨rfl,rfl⟩)|((first|refine call0D (iSliceDim_ok _ _ _ _ _ _ _ _ _ _ _ ?_ ?_ ?_) ?_|refine qcall0D (iSliceDim_ok _ _ _ _ _ _ _ _ _ _ _ ?_ ?_ ?_) ⟨_,_,rfl,rfl⟩ ?_);(iterate 3 (exact sd));rintro _ _ ⟨rfl,rfl⟩))<;>(try simp (disch:=omega) only [push_cast,seval,hc,h3,hx,hil,hcB,hcS,hcT,hel,Abz,Cnz,Cmz,hW1,hW2,hW3]))))
      refine Aiz ⟨.inr rfl,ret_famW (id0:=560) (id1:=561) (d:=35) (F:=esF W2) (cs:=W1) (bufT W1.length W2.length W3) rfl rfl (fun _ _ _ _ e0 e1=>ren_bufT e0 e1) rfl rfl (fun j hj=>?_) (by omega)⟩
      simp only [hk,Axz _ _ 128 (by omega),Axz _ _ 560 (by omega),Axz _ _ 561 (by omega),if_false]
      rw [Cpz 35 (esF W2) _ j hj]

end Go.Proofs.YtahdlohpncjdbaaGreatDoor
set_option linter.unusedSimpArgs false
set_option linter.unusedVariables false
set_option maxRecDepth 4000
set_option maxHeartbeats 4000000
namespace Go.Proofs.YtahdlohpncjdbaaGreatDoor
open VwM Vw Go
set_option linter.unusedSectionVars false
variable [SentA]

theorem OBf_plain {P:Program} {f:Nat} {args:List AV} {ok:Bool} {cs:List Int} {es:List Ex} (h:BCall P f args [] (OBf ok cs es)):PCall P f args (fun r=>r=.tup [.agg [.rows true (IL cs) cs.length,.rows true (EL true es) es.length],.bool ok]):=by
  refine (BCall.plain h).mono ?_
  rintro r ⟨r0,H',⟨rfl,rfl⟩,rfl⟩
  have e0:nthH (IL cs :: (esF es).cellsG (· + 2) :: (esF es).conts) 0=some (IL cs):=rfl
  have e1:nthH (IL cs :: (esF es).cellsG (· + 2) :: (esF es).conts) 1=some ((esF es).cellsG (· + 2)):=rfl
  show AV.tup [AV.agg [AV.ren _ _ true some 3 (.own 0 cs.length 1),AV.ren _ _ true some 3 (.own 1 es.length 5)],.bool ok]=_
  rw [Dfz,Dfz,e0,e1,Eqz,Eqz,if_pos (by unfold IL;simp),if_pos (by rw [Brz,eF_C])]
  have e2:((esF es).cellsG (· + 2)).map (AV.ren (fun _=>none) (nthH (IL cs :: (esF es).cellsG (· + 2) :: (esF es).conts)) true some 2)=EL true es:=by
    rw [← Ifz]
    unfold Fam.cellsG Fam.plain
    rw [Bkz]
    refine A6z fun p hp=>(esF es).ren_plain fun j hj=>⟨rfl,?_⟩
    have hjR:=(esF es).ok p j hp hj
    show ((esF es).conts)[j]?=_
    unfold Fam.conts
    rw [List.getElem?_map,List.getElem?_range hjR];rfl
  have e3:(IL cs).map (AV.ren (fun _=>none) (nthH (IL cs :: (esF es).cellsG (· + 2) :: (esF es).conts)) true some 2)=IL cs:=Blz _
  rw [e2,e3]
theorem exB_app {n:Nat} {es:List Ex} {p b:Int} {x y:List Int} {o:Bool} (h:exB n es) (hx:x.length ≤ n ∧ y.length ≤ n):exB n (es ++ [(p,(b,x,y),o)]):=fun e he=>by
  rcases List.mem_append.1 he with h1|h1
  · exact h e h1
  · rw [List.mem_singleton] at h1;subst h1;exact hx
theorem dropL_fam {Z:List Nat} (hz:∀ z ∈ Z,z < 1099511627776) (d:Nat) (F:Fam) (r:List (Nat × List AV)):dropL Z (famD d F ++ r)=famD d F ++ dropL Z r:=by
  unfold famD
  have hn:∀ j,inB Z (fim d j)=false:=fun j=>by
    rw [Bool.eq_false_iff]
    intro h
    have:=hz _ (inB_iff.1 h)
    have:=Biz d j
    omega
  have:∀ l:List Nat,dropL Z (l.map (fun j=>(fim d j,IL (F.rows j))) ++ r)=l.map (fun j=>(fim d j,IL (F.rows j))) ++ dropL Z r:=by
    intro l
    induction l with
    | nil=>rfl
    | cons a l ih=>simp only [List.map_cons,List.cons_append,I9z,hn,Bool.false_eq_true,if_false,ih]
  exact this _
theorem keepL_fam {Z:List Nat} (hz:∀ z ∈ Z,z < 1099511627776) (d:Nat) (F:Fam) (r:List (Nat × List AV)):keepL Z (famD d F ++ r)=keepL Z r:=by
  unfold famD
  have hn:∀ j,inB Z (fim d j)=false:=fun j=>by
    rw [Bool.eq_false_iff]
    intro h
    have:=hz _ (inB_iff.1 h)
    have:=Biz d j
    omega
  have:∀ l:List Nat,keepL Z (l.map (fun j=>(fim d j,IL (F.rows j))) ++ r)=keepL Z r:=by
    intro l
    induction l with
    | nil=>rfl
    | cons a l ih=>simp only [List.map_cons,List.cons_append,I2z,hn,Bool.false_eq_true,if_false,ih]
  exact this _
theorem Sees_fnt {σ:List (Nat × AV)} {HF:List (Nat × List AV)} {d:Nat} {c0 c1:List AV} {F:Fam} (h0:hk HF (16 * d)=none) (h1:hk HF (16 * d + 1)=none) (hf:noFam d HF):Sees (hk HF) (mkS σ ((16 * d,c0) :: (16 * d + 1,c1) :: (famD d F ++ HF))):=fun id c hc=>by
  show hk ((16 * d,c0) :: (16 * d + 1,c1) :: (famD d F ++ HF)) id=some c
  have n0:id ≠ 16 * d:=fun e=>by rw [e,h0] at hc;cases hc
  have n1:id ≠ 16 * d + 1:=fun e=>by rw [e,h1] at hc;cases hc
  simp only [hk,if_neg n0,if_neg n1]
  rw [← hc]
  exact Bmz (fim d) (fun j=>IL (F.rows j)) HF id _ fun j _ e=>by rw [← e,hf j] at hc;cases hc
theorem Sees_fnt2 {σ:List (Nat × AV)} {HF:List (Nat × List AV)} {d t:Nat} {c0 c1 v:List AV} {F:Fam} (h0:hk HF (16 * d)=none) (h1:hk HF (16 * d + 1)=none) (hf:noFam d HF) (ht:hk HF t=none ∧ t < 1099511627776):Sees (hk HF) (mkS σ ((16 * d,c0) :: (16 * d + 1,c1) :: (famD d F ++ (t,v) :: HF))):=fun id c hc=>by
  have h:=Sees_fnt (σ:=σ) (c0:=c0) (c1:=c1) (F:=F) h0 h1 hf id c hc
  have nt:id ≠ t:=fun e=>by rw [e,ht.1] at hc;cases hc
  show hk ((16 * d,c0) :: (16 * d + 1,c1) :: (famD d F ++ (t,v) :: HF)) id=some c
  have h':hk ((16 * d,c0) :: (16 * d + 1,c1) :: (famD d F ++ HF)) id=some c:=h
  have n0:id ≠ 16 * d:=fun e=>by rw [e,h0] at hc;cases hc
  have n1:id ≠ 16 * d + 1:=fun e=>by rw [e,h1] at hc;cases hc
  simp only [hk,if_neg n0,if_neg n1]
  rw [← hc]
  have:=Bmz (fim d) (fun j=>IL (F.rows j)) ((t,v) :: HF) id (List.range F.R) fun j _ e=>by rw [← e,hf j] at hc;cases hc
  refine this.trans ?_
  simp only [hk,if_neg nt]

end Go.Proofs.YtahdlohpncjdbaaGreatDoor
