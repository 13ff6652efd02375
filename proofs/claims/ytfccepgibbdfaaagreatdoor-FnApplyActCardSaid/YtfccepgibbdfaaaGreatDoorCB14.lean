/- Texts of this verifier. -/
import Derived.Test.YtfccepgibbdfaaaGreatDoorCB13
import Derived.Test.YtfccepgibbdfaaaGreatDoorCM1
set_option maxHeartbeats 4000000
set_option linter.unusedSimpArgs false
set_option linter.unusedSectionVars false
set_option linter.unusedVariables false
set_option maxRecDepth 4000
namespace Go.Proofs.YtfccepgibbdfaaaGreatDoor
open VwM Vw Go
variable [SentA]
variable [PowA]

variable [PowB]
theorem Gmz {es:List Ex}{q:Nat}:∀ {k:Nat},(q:Int)∈opensT es k→∃ e,es[q]?=some e∧e.2.2=true
 | 0,h=>by simp [opensT] at h
 | k+1,h=>by
  cases he:es[k]? with
  | none =>
   simp only [opensT,he] at h
   exact Gmz h
  | some e =>
   by_cases ho:e.2.2=true
   ·rw [Eyz he ho] at h
    rcases List.mem_append.1 h with h1|h1
    ·exact Gmz h1
    ·rw [List.mem_singleton] at h1
     have:q=k:=by omega
     subst this
     exact ⟨e,he,ho⟩
   ·rw [Ezz he ho] at h
    exact Gmz h
theorem opens_get9 {es:List Ex}{j:Nat}(h:j<(opensT es es.length).length):∃ (q:Nat) (p b:Int) (x y:List Int),(opensT es es.length).getD j 0=q∧q<es.length∧es[q]?=some (p,(b,x,y),true):=by
 have hm:(opensT es es.length).getD j 0∈opensT es es.length:=Ddz h
 have hr:=Htz hm
 obtain ⟨q,hq⟩:∃ q:Nat,(opensT es es.length).getD j 0=q:=⟨((opensT es es.length).getD j 0).toNat,by omega⟩
 rw [hq] at hm hr
 obtain ⟨⟨p,⟨b,x,y⟩,o⟩,he,ho⟩:=Gmz hm
 simp only at ho
 subst ho
 exact ⟨q,p,b,x,y,hq,by omega,he⟩
theorem EL_take3d (c:Bool){es:List Ex}{q:Nat}{p b:Int}{x y:List Int}{o:Bool}(he:es[q]?=some (p,(b,x,y),o)):((EL c es).drop (q*5+1)).take 3=[.int .i64 b,.rows c (IL x) x.length,.rows c (IL y) y.length]:=by
 have hd:=Btz c es q he
 simp only at hd
 have:=congrArg (fun l=>(l.drop 1).take 3) hd
 simpa [List.drop_take,List.drop_drop,List.take_take] using this
theorem Muz {es:List Ex}{w:Ex}{q:Nat}{e:Ex}(he:(es++[w])[q]?=some e)(h:q<es.length):es[q]?=some e:=by
 rwa [List.getElem?_append_left h] at he
theorem rel_open {es:List Ex}{j q:Nat}{e:Ex}(he:(relE es j)[q]?=some e)(ho:e.2.2=true):∃ f,es[q]?=some f∧f.2.2=true:=by
 unfold relE at he
 cases hj:es[j]? with
 | none=>rw [hj] at he;exact ⟨e,he,ho⟩
 | some g =>
  rw [hj] at he
  simp only at he
  by_cases hjq:j=q
  ·subst hjq
   have hl:=(List.getElem?_eq_some_iff.1 hj).1
   rw [List.getElem?_set_self hl] at he
   injection he with he
   subst he
   cases ho
  ·rw [List.getElem?_set_ne hjq] at he
   exact ⟨e,he,ho⟩
theorem ac_open {cs:List Int}{es:List Ex}{k:Int}{y:List Int}{q:Nat}{e:Ex}(he:(apE cs es k y)[q]?=some e)(ho:e.2.2=true)(hq:q<es.length):∃ f,es[q]?=some f∧f.2.2=true:=by
 unfold apE at he
 split at he
 ·unfold acE at he
  split at he
  ·exact ⟨e,Muz he hq,ho⟩
  ·split at he
   ·exact ⟨e,Muz he hq,ho⟩
   ·split at he
    ·exact ⟨e,Muz he hq,ho⟩
    ·split at he
     ·exact rel_open he ho
     ·exact ⟨e,he,ho⟩
 ·exact ⟨e,he,ho⟩
theorem ac_len (cs:List Int)(es:List Ex)(k:Int)(y:List Int):es.length≤(apE cs es k y).length∧(apE cs es k y).length≤es.length+1:=by
 unfold apE
 split
 ·unfold acE
  split
  ·simp
  ·split
   ·simp [epE]
   ·split
    ·simp [epE]
    ·split
     ·rw [G8z];omega
     ·omega
 ·omega


set_option maxHeartbeats 32000000 in
theorem lAOf_ok (bs:List Int)(hn:bs.length≤9223372036854775807)(hb:∀ x∈bs,0≤x∧x≤255):PCall Tryz.prog 5 [.rows false (UL bs) bs.length] (fun r=>r=.bool true):=by
 refine Atz l5_eq rfl ?_
 by_cases h:bs.length≤1048576
 ·have q:bs.length≤1099511627776∧∀ x∈bs,0≤x∧x≤255:=⟨by omega,hb⟩
  (repeat' ((first
 | (first|refine Afz ?_|refine Abz ?_)
 | (first|refine Agz ?_|refine Acz ?_|refine Amz ?_)
 | ((first|refine Alz (fun h=>?_) (fun h=>?_))<;>(try simp only [h])<;>(try simp only [bitvec_to_nat] at h)<;>(try simp only [h])<;>(first|(exfalso;omega)|(exfalso;simp_all;done)|skip))
 | (first|((with_reducible refine Ajz (f:=17) true ?_);simp (disch:=omega) only [push_cast,seval,Aaz];(refine Aiz (Akz (drawAA_ok _ _ ?_ ?_)) ?_;(iterate 2 (exact sd));rintro _ _ ⟨⟨cs,es,k,y,⟨hs1,hs2,hs3,hs4,hs5⟩,hy5,rfl⟩,rfl⟩)))
 | (first|refine Ajz false ?_))<;>(try simp (disch:=omega) only [push_cast,seval,Aaz])))
  cases hG:aaG cs es k y with
  | false =>
   have q3:aaG cs es k y=false∧(cs.length≤1099511627776∧es.length≤1099511627776∧exB 1099511627776 es)∧y.length≤1099511627776:=⟨hG,hs1,by omega⟩
   (repeat' ((first
 | (first|refine Afz ?_|refine Abz ?_)
 | (first|refine Agz ?_|refine Acz ?_)
 | (first|refine Ajz false ?_)
 | (first|(refine Aiz (Akz (iAAn_ok _ _ _ _ _ _ _ ?_ ?_ ?_ ?_)) ?_;(iterate 4 (exact sd));rintro _ _ ⟨rfl,rfl⟩)|(refine Aiz (Akz (sAAn_ok _ _ _ _ _ _ _ ?_ ?_ ?_ ?_)) ?_;(iterate 4 (exact sd));rintro _ _ ⟨rfl,rfl⟩)|(refine Aiz (Akz (Lhz)) ?_;rintro _ _ ⟨rfl,rfl⟩)))<;>(try simp (disch:=omega) only [push_cast,seval,Aaz,bne_self_eq_false,decide_true,beq_self_eq_true,Brz,Bsz])))
   all_goals ((refine Adz ⟨.inr rfl,_,rfl,?_⟩;try simp (disch:=omega) only [push_cast,seval]))
   all_goals (try rfl)
  | true =>
   have hv2:=ap_bnd hG
   have hb2:=vB_x hv2
   have hb8:=Fuz hv2
   have hne:=acT_ne cs es k y
   have hop:=fun (q:Nat) (e:Ex) (h1:(apE cs es k y)[q]?=some e)=>ac_open (cs:=cs) (es:=es) (k:=k) (y:=y) h1
   have hle:=ac_len cs es k y
   have hO:opensA (apC cs es k y) (apE cs es k y)=opensT (apE cs es k y) (apE cs es k y).length:=by unfold opensA;rw [if_pos hv2]
   have hol:=K6z (apC cs es k y) (apE cs es k y)
   rw [hO] at hol
   generalize hT:acT cs es k y=T at *
   generalize hC:apC cs es k y=C at *
   generalize hE:apE cs es k y=E at *
   have hel:=Auz false es
   have hel2:=Auz true E
   (repeat' ((first
 | (first|refine Afz ?_|refine Abz ?_)
 | (first|refine Agz ?_|refine Acz ?_|refine Amz ?_)
 | (first|refine Ajz false ?_)
 | (first|(refine Aiz (Akz (Miz _ _ _ _ _ _ _ ?_ ?_ ?_ ?_)) ?_;(iterate 4 (exact sd));rintro _ _ ⟨rfl,rfl⟩)|(refine Aiz (Akz (L1z _ _ _ _ _ _ _ ?_ ?_ ?_ ?_)) ?_;(iterate 4 (exact sd));rintro _ _ ⟨rfl,rfl⟩)|(refine Aiz (Akz (Dez _ _ _ _ _ _ ?_ ?_ ?_ ?_ ?_)) ?_;(iterate 5 (exact sd));rintro _ _ ⟨rfl,rfl⟩)|(refine Aiz (Akz (Dez _ _ _ _ _ _ ?_ ?_ ?_ ?_ ?_)) ?_;(iterate 5 (exact sd));rintro _ _ ⟨rfl,rfl⟩)|(refine Aiz (Akz (iOpenP_ok _ _ _ _ ?_ ?_ ?_)) ?_;(iterate 3 (exact sd));rintro _ _ ⟨rfl,rfl⟩)))<;>(try simp (disch:=omega) only [push_cast,seval,Aaz,bne_self_eq_false,decide_true,beq_self_eq_true,Brz,Bsz,hC,hE,hT,hne,hO])))
   refine Duz (fun i:Nat=>mkS [(3,.ref 48 2 0),(5,.ref 80 2 0),(9,.rows true (IL (opensT E E.length)) (opensT E E.length).length),(10,.int .i64 i)] [(48,[.rows true (IL cs) cs.length,.rows true (EL false es) es.length]),(80,[.rows true (IL C) C.length,.rows true (EL true E) E.length])]) (fun i=>i≤(opensT E E.length).length) (fun i=>(opensT E E.length).length-i) 0 (Nat.zero_le _) ?_ ?_
   ·refine SubW.of ?_
    (refine Sub.of_lists ?_ ?_ ?_ ?_ ?_<;>simp [Vw.mkS,Vw.lk,Vw.hk,AV.inn,innL,Apz,Anz,Asz,-List.map_set,-List.getD_eq_getElem?_getD,Aaz])
   ·intro i hi
    by_cases hlt:i<(opensT E E.length).length
    ·obtain ⟨q',p',b',x',y',hg,hq',he'⟩:=opens_get9 hlt
     have hil':q'*5+5≤E.length*5:=by omega
     have h3':=EL_take3d true he'
     have hsee:=D1z hv2 he'
     have hfit:fitB b' x' y' (C.length:Int)=true:=by rw [fitB_see (D2z.1 hsee).1];exact hsee
     have hxy:=Cgz hb2.2.2 he'
     by_cases hqe:q'<es.length
     ·obtain ⟨⟨pf,⟨bf,xf,yf⟩,of⟩,hf,hfo⟩:=hop q' _ he' rfl hqe
      simp only at hfo
      subst hfo
      have hilf:q'*5+5≤es.length*5:=by omega
      have hd:=Btz false es q' hf
      simp only at hd
      have hd4:((EL false es).drop (q'*5+4)).take 1=[.bool true]:=by have:=congrArg (fun l=>(l.drop 4).take 1) hd;simpa [List.drop_take,List.take_take] using this
      (repeat' ((first
 | (first|refine Afz ?_|refine Abz ?_)
 | (first|refine Agz ?_|refine Arz (mid:=l5r11a) (post:=l5r11b) mixed (by decide) ?_|refine Acz ?_|refine Amz ?_)
 | ((first|refine Alz (fun h=>?_) (fun h=>?_)|refine qIf_split (fun h=>?_) (fun h=>?_))<;>(try simp only [h])<;>(try simp only [bitvec_to_nat] at h)<;>(try simp only [h])<;>(first|(exfalso;omega)|(exfalso;simp_all;done)|skip))
 | (first|refine Aqz false ?_)
 | ((first | (refine Aoz (Akz (D0z _ _ _ _ _ _ ?_ ?_ ?_)) ⟨_,_,rfl,rfl⟩ ?_; (iterate 3 (exact sd)); rintro _ _ ⟨rfl,rfl⟩)) <;> (try simp (disch := omega) only [push_cast,seval,Aaz,hel,hel2,hg,hil',h3',hfit,hilf,hd4,Int.toNat_natCast,decide_true])))<;>(try simp (disch:=omega) only [push_cast,seval,Aaz,hel,hel2,hg,hil',h3',hfit,hilf,hd4,Int.toNat_natCast,decide_true])))
      refine ⟨i+1,by omega,by omega,SubW.of ?_⟩
      (refine Sub.of_lists ?_ ?_ ?_ ?_ ?_<;>simp [Vw.mkS,Vw.lk,Vw.hk,AV.inn,innL,Apz,Anz,Asz,-List.map_set,-List.getD_eq_getElem?_getD,Aaz])
     ·have hn:(((q':Nat):Int)<(es.length:Int))=False:=eq_false (by omega)
      (repeat' ((first
 | (first|refine Afz ?_|refine Abz ?_)
 | (first|refine Agz ?_|refine Arz (mid:=l5r11a) (post:=l5r11b) mixed (by decide) ?_|refine Acz ?_|refine Amz ?_)
 | ((first|refine Alz (fun h=>?_) (fun h=>?_))<;>(try simp only [h])<;>(try simp only [bitvec_to_nat] at h)<;>(try simp only [h])<;>(first|(exfalso;omega)|(exfalso;simp_all;done)|skip))
 | (first|refine Aqz false ?_)
 | ((first | (refine Aoz (Akz (D0z _ _ _ _ _ _ ?_ ?_ ?_)) ⟨_,_,rfl,rfl⟩ ?_; (iterate 3 (exact sd)); rintro _ _ ⟨rfl,rfl⟩)) <;> (try simp (disch := omega) only [push_cast,seval,Aaz,hel,hel2,hg,hil',h3',hfit,hn,Int.toNat_natCast,decide_true,decide_false])))<;>(try simp (disch:=omega) only [push_cast,seval,Aaz,hel,hel2,hg,hil',h3',hfit,hn,Int.toNat_natCast,decide_true,decide_false])))
      refine ⟨i+1,by omega,by omega,SubW.of ?_⟩
      (refine Sub.of_lists ?_ ?_ ?_ ?_ ?_<;>simp [Vw.mkS,Vw.lk,Vw.hk,AV.inn,innL,Apz,Anz,Asz,-List.map_set,-List.getD_eq_getElem?_getD,Aaz])
    ·have e:i=(opensT E E.length).length:=by omega
     subst e
     (repeat' (first
 | (first|refine Afz ?_|refine Abz ?_)
 | ((first|refine Agz ?_|refine Acz ?_|refine Azz ?_);simp (disch:=omega) only [push_cast,seval,Aaz,hel,hel2,decide_true])
 | ((first | refine Alz (fun h => ?_) (fun h => ?_) | refine A4z (fun h => ?_) (fun h => ?_)) <;> (try simp only [h]) <;> (try simp only [bitvec_to_nat] at h) <;> (try simp only [h]) <;> (first | (exfalso; omega) | (focus (exfalso; simp_all; done)) | (simp (disch := omega) only [push_cast,seval,Aaz,hel,hel2,decide_true]) | skip))))
     all_goals ((refine Adz ⟨.inr rfl,_,rfl,?_⟩;try simp (disch:=omega) only [push_cast,seval]))
     all_goals (try rfl)
     all_goals (try simp;omega)
 ·(repeat' (first
 | (first|refine Afz ?_|refine Abz ?_)
 | ((first|refine Agz ?_|refine Acz ?_);simp (disch:=omega) only [push_cast,seval,Aaz])
 | ((first|refine Alz (fun h=>?_) (fun h=>?_))<;>(try simp only [h])<;>(try simp only [bitvec_to_nat] at h)<;>(try simp only [h])<;>(first|(exfalso;omega)|(exfalso;simp_all;done)|(simp (disch:=omega) only [push_cast,seval,Aaz])|skip))
 | (refine Adz ⟨.inr rfl,_,rfl,?_⟩;(try simp (disch:=omega) only [push_cast,seval,Aaz]))))

end Go.Proofs.YtfccepgibbdfaaaGreatDoor
