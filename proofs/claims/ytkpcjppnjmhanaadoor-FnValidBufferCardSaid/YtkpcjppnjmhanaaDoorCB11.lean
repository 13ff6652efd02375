/- Texts of this verifier. -/
import Derived.Test.YtkpcjppnjmhanaaDoorCB10
import Derived.Test.YtkpcjppnjmhanaaDoorCM1
set_option linter.unusedSimpArgs false
set_option linter.unusedVariables false
set_option maxRecDepth 4000
set_option maxHeartbeats 4000000
namespace Go.Proofs.YtkpcjppnjmhanaaDoor
open VwM Vw Go
set_option linter.unusedSectionVars false
variable [SentA]

theorem zcX0:zcells [AV.int .i64 0,.int .i64 0,.val (.slice none 0 0),.val (.slice none 0 0),.bool false] 1=[AV.int .i64 0,.int .i64 0,.val (.slice none 0 0),.val (.slice none 0 0),.bool false]:=zcX _ _ _ _ _
theorem I7z (es:List Ex) (a b:Int) (o:Bool):EL false (es ++ [(a,(b,[],[]),o)])=EL false es ++ [.int .i64 a,.int .i64 b,.rows false [] 0,.rows false [] 0,.bool o]:=by rw [Fqz];rfl
abbrev sbP (cs:List Int) (es:List Ex):Prop:=cs.length ≤ 61 ∧ es.length ≤ 9 ∧ exB 4 es
theorem exB_nil1 {es:List Ex} {a b:Int} {o:Bool} (h:exB 4 es):exB 4 (es ++ [(a,(b,[],[]),o)]):=fun e he=>by
  rcases List.mem_append.1 he with h1|h1
  · exact h e h1
  · rw [List.mem_singleton] at h1;subst h1;exact ⟨Nat.zero_le _,Nat.zero_le _⟩


set_option maxHeartbeats 16000000 in
theorem someB_ok (bs:List Int) (p:Int) (hbs:okB bs) (hp:0 ≤ p ∧ p ≤ 700000) :
    BCall Tryd.prog 24 [.ref 0 2 0] [RD bs p] (fun r H'=>∃ cs es p',sbP cs es ∧ (p ≤ p' ∧ p' ≤ p + 120) ∧ r=.agg [.own 1 cs.length 1,.own 2 es.length 5] ∧ H'=[RD bs p',IL cs,EL false es]):=by
  obtain ⟨hp1,hp2⟩:=hp
  refine Ayz (pins:=[0]) (pin:=1) l24_eq rfl rfl rfl ?_
  have helc:=fun (c:Bool) (es:List Ex)=>Azz c es
  (repeat' (first
 | (first|refine Amz ?_|refine Afz ?_)
 | ((first|refine Anz ?_|refine Avz (mid:=l24r6a) (post:=l24r6b) [0] Asz (by decide) ?_|refine Aez ?_|refine Ahz ?_|refine Aiz ?_);simp (disch:=omega) only [push_cast,seval,l24r0,l24r1,l24r2,l24r3,l24r4,l24r5,l24r6a,l24r6b,l24r6,l24r7,l24r8,l24r9,Aaz,zcX0])
 | ((first|refine Abz ?_ ?_|refine Adz ?_ ?_|refine Acz ?_ ?_)<;>intro h<;>(try simp only [h])<;>(try simp only [bitvec_to_nat] at h)<;>(try simp only [h])<;>(first|(exfalso;omega)|(exfalso;simp_all;done)|(simp (disch:=omega) only [push_cast,seval,Aaz,zcX0])|skip))
 | ((first|((with_reducible refine callD_ids (f:=44) [0] true ?_);simp (disch:=omega) only [push_cast,seval,Aaz,zcX0];(refine D2z (id:=0) (goodB_ok _ _ ?_ ?_) (by (simp (disch:=omega) only [push_cast,seval,Aaz,zcX0])<;>rfl) ?_;(iterate 2 (exact sd));rintro _ _ ⟨csG,esG,cG,pG,hvG,⟨hb1,hb2,hb3⟩,hpG,rfl,rfl⟩))|((with_reducible refine callD_ids (f:=40) [0] true ?_);simp (disch:=omega) only [push_cast,seval,Aaz,zcX0];(refine D2z (id:=0) (Dtz _ _ _ ?_ ?_) (by (simp (disch:=omega) only [push_cast,seval,Aaz,zcX0])<;>rfl) ?_;(iterate 2 (exact sd));rintro _ _ ⟨x,hx0,hx1,rfl,rfl⟩))|((with_reducible refine qcallI_of (f:=40) [0] true ?_);simp (disch:=omega) only [push_cast,seval,Aaz,zcX0];(refine Ddz (id:=0) (Dtz _ _ _ ?_ ?_) (by (simp (disch:=omega) only [push_cast,seval,Aaz,zcX0])<;>rfl) (by decide) ⟨_,_,0,by omega,Or.inr (Or.inr rfl),rfl,rfl⟩ ?_;(iterate 2 (exact sd));rintro _ _ ⟨x,hx0,hx1,rfl,rfl⟩))|((with_reducible refine callD_ids (f:=41) (args:=[Operand.tmp 19,Operand.tmp 20]) [0,320] true ?_);simp (disch:=omega) only [push_cast,seval,Aaz,zcX0];(refine Bwz (id:=0) (id':=320) (by decide) (C6z _ _ _ _ ?_ ?_ ?_ ?_ ?_) (by (simp (disch:=omega) only [push_cast,seval,Aaz,zcX0])<;>rfl) (by (simp (disch:=omega) only [push_cast,seval,Aaz,zcX0])<;>rfl) ?_;(iterate 5 (exact sd));rintro _ _ ⟨x,hx,hx0,rfl,rfl⟩))|((with_reducible refine callD_ids (f:=41) [0] true ?_);simp (disch:=omega) only [push_cast,seval,Aaz,zcX0];(refine D2z (id:=0) (Cuz _ _ _ _ ?_ ?_ ?_ ?_ ?_) (by (simp (disch:=omega) only [push_cast,seval,Aaz,zcX0])<;>rfl) ?_;(iterate 5 (exact sd));rintro _ _ ⟨x,hx,hx0,rfl,rfl⟩))|((with_reducible refine qcallI_of (f:=41) [0] true ?_);simp (disch:=omega) only [push_cast,seval,Aaz,zcX0];(refine Ddz (id:=0) (Cuz _ _ _ _ ?_ ?_ ?_ ?_ ?_) (by (simp (disch:=omega) only [push_cast,seval,Aaz,zcX0])<;>rfl) (by decide) (by simp only [Cqz,Dnz];exact ⟨_,_,_,List.mem_cons_self,by omega,rfl,rfl⟩) ?_;(iterate 5 (exact sd));rintro _ _ ⟨x,hx,hx0,rfl,rfl⟩)))<;>(try simp (disch:=omega) only [push_cast,seval,Aaz,zcX0]))))
  all_goals refine awp_subW (SubW.toF [81] SubW.rfl') ?_
  all_goals simp only [toFL,List.map_cons,List.map_nil,List.map_append,List.contains_cons,List.contains_nil,Nat.reduceBEq,BEq.rfl,Bool.or_false,Bool.false_eq_true,↓reduceIte,toF_EL,toF]
  all_goals first
    | ((refine Ajz ⟨.inr rfl,[80,81],[],_,by decide,rfl,?_⟩;(try simp (disch:=omega) only [push_cast,seval,↓Alz,↓Agz,↓List.map_cons,↓List.map_nil,Aaz]));exact ⟨csG,esG,_,⟨by omega,by omega,hb3⟩,by omega,rfl,rfl⟩)
    | ((refine Ajz ⟨.inr rfl,[80,81],[],_,by decide,rfl,?_⟩;(try simp (disch:=omega) only [push_cast,seval,↓Alz,↓Agz,↓List.map_cons,↓List.map_nil,Aaz,List.map_append,List.length_append,List.length_map]));refine ⟨csG ++ [256],esG,pG + 1,⟨by rw [List.length_append,List.length_singleton];omega,by omega,hb3⟩,by omega,by rw [List.length_append,List.length_singleton],?_⟩;unfold IL;rw [List.map_append];rfl)
    | ((refine Ajz ⟨.inr rfl,[80,81],[],_,by decide,rfl,?_⟩;(try simp (disch:=omega) only [push_cast,seval,↓Alz,↓Agz,↓List.map_cons,↓List.map_nil,Aaz,List.map_append,List.length_append,List.length_map]));refine ⟨csG,esG ++ [(x,(0,[],[]),true)],pG + 1 + 1,⟨by omega,by rw [List.length_append,List.length_singleton];omega,exB_nil1 hb3⟩,by omega,by rw [List.length_append,List.length_singleton],?_⟩;first|(rw [I7z];done)|(rw [I7z];rfl))
    | ((refine Ajz ⟨.inr rfl,[80,81],[],_,by decide,rfl,?_⟩;(try simp (disch:=omega) only [push_cast,seval,↓Alz,↓Agz,↓List.map_cons,↓List.map_nil,Aaz,List.map_append,List.length_append,List.length_map]));refine ⟨csG,esG ++ [(-1,(59,[],[]),true)],pG + 1,⟨by omega,by rw [List.length_append,List.length_singleton];omega,exB_nil1 hb3⟩,by omega,by rw [List.length_append,List.length_singleton],?_⟩;first|(rw [I7z];done)|(rw [I7z];rfl))

end Go.Proofs.YtkpcjppnjmhanaaDoor
set_option linter.unusedSimpArgs false
set_option linter.unusedVariables false
set_option maxRecDepth 4000
set_option maxHeartbeats 4000000
namespace Go.Proofs.YtkpcjppnjmhanaaDoor
open VwM Vw Go
set_option linter.unusedSectionVars false
variable [SentA]

/-- All closed. -/
def cloE (e:Ex):Ex:=(e.1,e.2.1,false)
def cloL (es:List Ex) (i:Nat):List Ex:=(es.take i).map cloE ++ es.drop i
theorem cloL_length (es:List Ex) (i:Nat):(cloL es i).length=es.length:=by unfold cloL;simp;omega
theorem cloL_zero (es:List Ex):cloL es 0=es:=by simp [cloL]
theorem cloL_all (es:List Ex):cloL es es.length=es.map cloE:=by simp [cloL]
theorem cloL_at {es:List Ex} {i:Nat} {e:Ex} (h:es[i]?=some e):(cloL es i)[i]?=some e ∧ (cloL es i).set i (e.1,e.2.1,false)=cloL es (i + 1):=by
  have hi:=(List.getElem?_eq_some_iff.1 h).1
  have hl:((es.take i).map cloE).length=i:=by simp;omega
  have hd:es.drop i=e :: es.drop (i + 1):=by
    rw [List.drop_eq_getElem_cons hi,(List.getElem?_eq_some_iff.1 h).2]
  unfold cloL
  rw [hd]
  constructor
  · rw [List.getElem?_append_right (by omega),hl,Nat.sub_self];rfl
  · rw [List.set_append_right _ _ (by omega),hl,Nat.sub_self,List.set_cons_zero,List.take_succ_eq_append_getElem hi,List.map_append,(List.getElem?_eq_some_iff.1 h).2,List.append_assoc]
    rfl
theorem vB_clo {cs:List Int} {es:List Ex} (h:vB cs es=true):vB cs (es.map cloE)=true:=by
  rw [Dkz] at h ⊢
  refine ⟨h.1,by simpa using h.2.1,fun i e he=>?_⟩
  rw [List.getElem?_map] at he
  cases hi:es[i]? with
  | none=>rw [hi] at he;cases he
  | some f =>
    rw [hi] at he
    injection he with he
    subst he
    exact Cez.2 ⟨(Cez.1 (h.2.2 i f hi)).1,fun h3=>by cases h3⟩
theorem vB_none {cs:List Int} {es:List Ex} (h:vB cs es=true):vB cs []=true:=by
  rw [Dkz] at h ⊢
  exact ⟨h.1,Nat.zero_le _,fun i e he=>by simp at he⟩
theorem opens_clo (cs:List Int) (es:List Ex):opensA cs (es.map cloE)=[]:=by
  unfold opensA
  split
  · exact C5z.2 fun i e _ he=>by
      rw [List.getElem?_map] at he
      cases hi:es[i]? with
 | none=>rw [hi] at he;cases he
 | some f=>rw [hi] at he;injection he with he;subst he;simp [cloE]
  · rfl
theorem exB_clo {n:Nat} {es:List Ex} (h:exB n es):exB n (es.map cloE):=fun e he=>by
  obtain ⟨f,hf,rfl⟩:=List.mem_map.1 he
  exact h f hf
abbrev sbQ (cs:List Int) (es:List Ex):Prop:=(cs.length ≤ 1099511627776 ∧ es.length ≤ 1099511627776 ∧ exB 1099511627776 es) ∧ (cs.length ≤ 1048576 ∧ es.length ≤ 1048576 ∧ exB 1048576 es) ∧ cs.length ≤ 61 ∧ es.length ≤ 9 ∧ exB 4 es
theorem sbQ_of {cs:List Int} {es:List Ex} (h:sbP cs es):sbQ cs es:=⟨⟨by have:=h.1;omega,by have:=h.2.1;omega,fun e he=>by have:=h.2.2 e he;omega⟩,⟨by have:=h.1;omega,by have:=h.2.1;omega,fun e he=>by have:=h.2.2 e he;omega⟩,h⟩


theorem Flz (bs:List Int) (n:Nat) (hn:bs.length=n) (hb:n ≤ 1099511627776 ∧ ∀ x ∈ bs,0 ≤ x ∧ x ≤ 255):BCall Tryd.prog 7 [.rows false (UL bs) n] [] (fun r H'=>∃ cs es,sbQ cs es ∧ r=.agg [.own 0 cs.length 1,.own 1 es.length 5] ∧ H'=[IL cs,EL false es]):=by
  subst hn
  refine Ayz (pins:=[]) (pin:=0) l7_eq rfl rfl rfl ?_
  (repeat' (first
 | (first|refine Amz ?_|refine Afz ?_)
 | ((first|refine Anz ?_|refine Aez ?_|refine Ahz ?_|refine Aiz ?_);simp (disch:=omega) only [push_cast,seval,l7r0,l7r1,Aaz])
 | ((first|refine Abz ?_ ?_|refine Adz ?_ ?_|refine Acz ?_ ?_)<;>intro h<;>(try simp only [h])<;>(try simp only [bitvec_to_nat] at h)<;>(try simp only [h])<;>(first|(exfalso;omega)|(exfalso;simp_all;done)|(simp (disch:=omega) only [push_cast,seval,Aaz])|skip))
 | ((first|((with_reducible refine Aoz (f:=25) true ?_);simp (disch:=omega) only [push_cast,seval,Aaz];(refine call0D (newReader_ok _ _ ?_ ?_) ?_;(iterate 2 (exact sd));rintro _ _ ⟨bs0,hbs0,rfl,rfl⟩))|((with_reducible refine callD_ids (f:=24) [64] true ?_);simp (disch:=omega) only [push_cast,seval,Aaz];(refine D2z (id:=64) (someB_ok _ _ ?_ ?_) (by (simp (disch:=omega) only [push_cast,seval,Aaz])<;>rfl) ?_;(iterate 2 (exact sd));rintro _ _ ⟨csG,esG,pG,hsG,hpG,rfl,rfl⟩)))<;>(try simp (disch:=omega) only [push_cast,seval,Aaz]))))
  all_goals ((refine Ajz ⟨.inr rfl,[80,81],[],_,by decide,rfl,?_⟩;(try simp (disch:=omega) only [push_cast,seval,↓Alz,↓Agz,↓List.map_cons,↓List.map_nil,Aaz]));exact ⟨_,_,sbQ_of (by assumption),rfl,rfl⟩)


theorem EL_cell (c:Bool):∀ es:List Ex,(EL c es).all AV.isCell=true
  | []=>rfl
  | e :: r=>by simp only [EL,List.all_cons,AV.isCell,EL_cell c r,Bool.and_self]


theorem ivBn_ok (cs:List Int) (m:Nat) (hm:cs.length=m) (hb:cs.length ≤ 1099511627776 ∧ ([]:List Ex).length ≤ 1099511627776 ∧ exB 1099511627776 []):PCall Tryd.prog 8 [.agg [.rows false (IL cs) m,.rows false [] 0]] (fun r=>r=.bool (vB cs [])):=by
  subst hm
  exact Bqz cs [] _ _ rfl rfl hb


set_option maxHeartbeats 32000000 in
theorem lVBu_ok (bs:List Int) (hn:bs.length ≤ 9223372036854775807) (hb:∀ x ∈ bs,0 ≤ x ∧ x ≤ 255):PCall Tryd.prog 3 [.rows false (UL bs) bs.length] (fun r=>r=.bool true):=by
  refine Axz l3_eq rfl ?_
  by_cases h:bs.length ≤ 1048576
  · have q:bs.length ≤ 1099511627776 ∧ ∀ x ∈ bs,0 ≤ x ∧ x ≤ 255:=⟨by omega,hb⟩
    have hcell:=EL_cell false
    (repeat' (first
 | (first|refine Amz ?_|refine Afz ?_)
 | ((first|refine Anz ?_|refine Avz (mid:=l3r7a) (post:=l3r7b) [448] Asz (by decide) ?_|refine Aez ?_|refine Ahz ?_|refine Aiz ?_);simp (disch:=omega) only [push_cast,seval,l3r0,l3r1,l3r2,l3r3,l3r4,l3r5,l3r6,l3r7a,l3r7b,l3r7,l3r8,l3r9,l3r10,l3r11,l3r12,Aaz,hcell,bne_self_eq_false])
 | ((first|refine Abz ?_ ?_|refine Adz ?_ ?_|refine Acz ?_ ?_)<;>intro h<;>(try simp only [h])<;>(try simp only [bitvec_to_nat] at h)<;>(try simp only [h])<;>(first|(exfalso;omega)|(exfalso;simp_all;done)|(simp (disch:=omega) only [push_cast,seval,Aaz,hcell,bne_self_eq_false])|skip))
 | ((first|((with_reducible refine Aoz (f:=7) true ?_);simp (disch:=omega) only [push_cast,seval,Aaz,hcell,bne_self_eq_false];(refine call0D (Flz _ _ ?_ ?_) ?_;(iterate 2 (exact sd));rintro _ _ ⟨cs,es,⟨hs1,hs2,hs3,hs4,hs5⟩,rfl,rfl⟩)))<;>(try simp (disch:=omega) only [push_cast,seval,Aaz,hcell,bne_self_eq_false]))
 | ((first|refine Aoz false ?_|refine Akz false ?_);simp (disch:=omega) only [push_cast,seval,Aaz,hcell,bne_self_eq_false])
 | ((first|((first|refine call0D (BCall.ofP (Bqz _ _ _ _ ?_ ?_ ?_)) ?_|refine qcall0D (BCall.ofP (Bqz _ _ _ _ ?_ ?_ ?_)) ⟨_,_,rfl,rfl⟩ ?_);(iterate 3 (exact sd));rintro _ _ ⟨rfl,rfl⟩)|((first|refine call0D (BCall.ofP (ivBn_ok _ _ ?_ ?_)) ?_|refine qcall0D (BCall.ofP (ivBn_ok _ _ ?_ ?_)) ⟨_,_,rfl,rfl⟩ ?_);(iterate 2 (exact sd));rintro _ _ ⟨rfl,rfl⟩)|((first|refine call0D (BCall.ofP (svBu_ok _ _ _ _ ?_ ?_ ?_)) ?_|refine qcall0D (BCall.ofP (svBu_ok _ _ _ _ ?_ ?_ ?_)) ⟨_,_,rfl,rfl⟩ ?_);(iterate 3 (exact sd));rintro _ _ ⟨rfl,rfl⟩)|((first|refine call0D (iOpen_ok _ _ _ _ ?_ ?_ ?_) ?_|refine qcall0D (iOpen_ok _ _ _ _ ?_ ?_ ?_) ⟨_,_,rfl,rfl⟩ ?_);(iterate 3 (exact sd));rintro _ _ ⟨rfl,rfl⟩))<;>(try simp (disch:=omega) only [push_cast,seval,Aaz,hcell,bne_self_eq_false]))))
    · (refine Ajz ⟨.inr rfl,_,rfl,?_⟩;try simp (disch:=omega) only [push_cast,seval,h])
      all_goals (try simp [h])
    · have hv2:=vB_clo h
      have hv3:=vB_none h
      have hoc:=opens_clo cs es
      have hel:=Azz false es
      have q1:cs.length ≤ 1099511627776 ∧ (es.map cloE).length ≤ 1099511627776 ∧ exB 1099511627776 (es.map cloE):=⟨hs1.1,by rw [List.length_map];exact hs1.2.1,exB_clo hs1.2.2⟩
      have q2:cs.length ≤ 1099511627776 ∧ ([]:List Ex).length ≤ 1099511627776 ∧ exB 1099511627776 []:=⟨hs1.1,Nat.zero_le _,fun e he=>by cases he⟩
      refine C9z (fun i:Nat=>mkS [(3,.ref 48 2 0),(5,.ref 80 2 0),(6,.int .i64 i)] [(48,[.own 176 cs.length 1,.own 177 es.length 5]),(80,[.own 176 cs.length 1,.own 448 es.length 5]),(176,IL cs),(177,EL false es),(448,EL false (cloL es i))]) (fun i=>i ≤ es.length) (fun i=>es.length - i) 0 (Nat.zero_le _) ?_ ?_
      · refine SubW.of ?_
        rw [cloL_zero]
        (refine Sub.of_lists ?_ ?_ ?_ ?_ ?_<;>simp [Vw.mkS,Vw.lk,Vw.hk,AV.inn,innL,Arz,Aqz,Atz,-List.map_set,-List.getD_eq_getElem?_getD,Aaz])
      · intro i hi
        have hcl:(EL false (cloL es i)).length=es.length * 5:=by rw [Azz,cloL_length]
        by_cases hlt:i < es.length
        · obtain ⟨pp,b,x,y,o,he⟩:=Cnz hlt
          have hca:=cloL_at he
          have hil:i * 5 + 5 ≤ es.length * 5:=by omega
          have hset:(EL false (cloL es i)).set (i * 5 + 4) (.bool false)=EL false (cloL es (i + 1)):=by rw [EL_set false _ i false hca.1,hca.2]
          (repeat' (first
 | (first|refine Amz ?_|refine Afz ?_)
 | ((first|refine Anz ?_|refine Avz (mid:=l3r7a) (post:=l3r7b) [448] Asz (by decide) ?_|refine Aez ?_|refine Ahz ?_|refine Aiz ?_);simp (disch:=omega) only [push_cast,seval,l3r0,l3r1,l3r2,l3r3,l3r4,l3r5,l3r6,l3r7a,l3r7b,l3r7,l3r8,l3r9,l3r10,l3r11,l3r12,Aaz,hcl,hil,hset])
 | ((first|refine Abz ?_ ?_|refine Adz ?_ ?_|refine Acz ?_ ?_)<;>intro h<;>(try simp only [h])<;>(try simp only [bitvec_to_nat] at h)<;>(try simp only [h])<;>(first|(exfalso;omega)|(exfalso;simp_all;done)|(simp (disch:=omega) only [push_cast,seval,Aaz,hcl,hil,hset])|skip))
 | ((first|((with_reducible refine Aoz (f:=7) true ?_);simp (disch:=omega) only [push_cast,seval,Aaz,hcl,hil,hset];(refine call0D (Flz _ _ ?_ ?_) ?_;(iterate 2 (exact sd));rintro _ _ ⟨cs,es,⟨hs1,hs2,hs3,hs4,hs5⟩,rfl,rfl⟩)))<;>(try simp (disch:=omega) only [push_cast,seval,Aaz,hcl,hil,hset]))
 | ((first|refine Aoz false ?_|refine Akz false ?_);simp (disch:=omega) only [push_cast,seval,Aaz,hcl,hil,hset])
 | ((first | ((first | refine call0D (BCall.ofP (Bqz _ _ _ _ ?_ ?_ ?_)) ?_ | refine qcall0D (BCall.ofP (Bqz _ _ _ _ ?_ ?_ ?_)) ⟨_,_,rfl,rfl⟩ ?_); (iterate 3 (exact sd)); rintro _ _ ⟨rfl,rfl⟩) | ((first | refine call0D (BCall.ofP (ivBn_ok _ _ ?_ ?_)) ?_ | refine qcall0D (BCall.ofP (ivBn_ok _ _ ?_ ?_)) ⟨_,_,rfl,rfl⟩ ?_); (iterate 2 (exact sd)); rintro _ _ ⟨rfl,rfl⟩) | ((first | refine call0D (BCall.ofP (svBu_ok _ _ _ _ ?_ ?_ ?_)) ?_ | refine qcall0D (BCall.ofP (svBu_ok _ _ _ _ ?_ ?_ ?_)) ⟨_,_,rfl,rfl⟩ ?_); (iterate 3 (exact sd)); rintro _ _ ⟨rfl,rfl⟩) | ((first | refine call0D (iOpen_ok _ _ _ _ ?_ ?_ ?_) ?_ | refine qcall0D (iOpen_ok _ _ _ _ ?_ ?_ ?_) ⟨_,_,rfl,rfl⟩ ?_); (iterate 3 (exact sd)); rintro _ _ ⟨rfl,rfl⟩)) <;> (try simp (disch := omega) only [push_cast,seval,Aaz,hcl,hil,hset]))))
          refine ⟨i + 1,by omega,by omega,SubW.of ?_⟩
          (refine Sub.of_lists ?_ ?_ ?_ ?_ ?_<;>simp [Vw.mkS,Vw.lk,Vw.hk,AV.inn,innL,Arz,Aqz,Atz,-List.map_set,-List.getD_eq_getElem?_getD,Aaz])
        · have e:i=es.length:=by omega
          subst e
          rw [cloL_all] at hcl ⊢
          (repeat' (first
 | (first|refine Amz ?_|refine Afz ?_)
 | ((first|refine Anz ?_|refine Avz (mid:=l3r7a) (post:=l3r7b) [448] Asz (by decide) ?_|refine Aez ?_|refine Ahz ?_|refine Aiz ?_);simp (disch:=omega) only [push_cast,seval,l3r0,l3r1,l3r2,l3r3,l3r4,l3r5,l3r6,l3r7a,l3r7b,l3r7,l3r8,l3r9,l3r10,l3r11,l3r12,Aaz,hcl,hv2,hv3,hoc])
 | ((first|refine Abz ?_ ?_|refine Adz ?_ ?_|refine Acz ?_ ?_)<;>intro h<;>(try simp only [h])<;>(try simp only [bitvec_to_nat] at h)<;>(try simp only [h])<;>(first|(exfalso;omega)|(exfalso;simp_all;done)|(simp (disch:=omega) only [push_cast,seval,Aaz,hcl,hv2,hv3,hoc])|skip))
 | ((first|((with_reducible refine Aoz (f:=7) true ?_);simp (disch:=omega) only [push_cast,seval,Aaz,hcl,hv2,hv3,hoc];(refine call0D (Flz _ _ ?_ ?_) ?_;(iterate 2 (exact sd));rintro _ _ ⟨cs,es,⟨hs1,hs2,hs3,hs4,hs5⟩,rfl,rfl⟩)))<;>(try simp (disch:=omega) only [push_cast,seval,Aaz,hcl,hv2,hv3,hoc]))
 | ((first|refine Aoz false ?_|refine Akz false ?_);simp (disch:=omega) only [push_cast,seval,Aaz,hcl,hv2,hv3,hoc])
 | ((first | ((first | refine call0D (BCall.ofP (Bqz _ _ _ _ ?_ ?_ ?_)) ?_ | refine qcall0D (BCall.ofP (Bqz _ _ _ _ ?_ ?_ ?_)) ⟨_,_,rfl,rfl⟩ ?_); (iterate 3 (exact sd)); rintro _ _ ⟨rfl,rfl⟩) | ((first | refine call0D (BCall.ofP (ivBn_ok _ _ ?_ ?_)) ?_ | refine qcall0D (BCall.ofP (ivBn_ok _ _ ?_ ?_)) ⟨_,_,rfl,rfl⟩ ?_); (iterate 2 (exact sd)); rintro _ _ ⟨rfl,rfl⟩) | ((first | refine call0D (BCall.ofP (svBu_ok _ _ _ _ ?_ ?_ ?_)) ?_ | refine qcall0D (BCall.ofP (svBu_ok _ _ _ _ ?_ ?_ ?_)) ⟨_,_,rfl,rfl⟩ ?_); (iterate 3 (exact sd)); rintro _ _ ⟨rfl,rfl⟩) | ((first | refine call0D (iOpen_ok _ _ _ _ ?_ ?_ ?_) ?_ | refine qcall0D (iOpen_ok _ _ _ _ ?_ ?_ ?_) ⟨_,_,rfl,rfl⟩ ?_); (iterate 3 (exact sd)); rintro _ _ ⟨rfl,rfl⟩)) <;> (try simp (disch := omega) only [push_cast,seval,Aaz,hcl,hv2,hv3,hoc]))))
          all_goals ((refine Ajz ⟨.inr rfl,_,rfl,?_⟩;try simp (disch:=omega) only [push_cast,seval,hv2]))
          all_goals (try rfl)
  · (repeat' (first
 | (first|refine Amz ?_|refine Afz ?_)
 | ((first|refine Anz ?_|refine Avz (mid:=l3r7a) (post:=l3r7b) [448] Asz (by decide) ?_|refine Aez ?_|refine Ahz ?_|refine Aiz ?_);simp (disch:=omega) only [push_cast,seval,l3r0,l3r1,l3r2,l3r3,l3r4,l3r5,l3r6,l3r7a,l3r7b,l3r7,l3r8,l3r9,l3r10,l3r11,l3r12,Aaz])
 | ((first|refine Abz ?_ ?_|refine Adz ?_ ?_|refine Acz ?_ ?_)<;>intro h<;>(try simp only [h])<;>(try simp only [bitvec_to_nat] at h)<;>(try simp only [h])<;>(first|(exfalso;omega)|(exfalso;simp_all;done)|(simp (disch:=omega) only [push_cast,seval,Aaz])|skip))
 | ((first|((with_reducible refine Aoz (f:=7) true ?_);simp (disch:=omega) only [push_cast,seval,Aaz];(refine call0D (Flz _ _ ?_ ?_) ?_;(iterate 2 (exact sd));rintro _ _ ⟨cs,es,⟨hs1,hs2,hs3,hs4,hs5⟩,rfl,rfl⟩)))<;>(try simp (disch:=omega) only [push_cast,seval,Aaz]))
 | ((first|refine Aoz false ?_|refine Akz false ?_);simp (disch:=omega) only [push_cast,seval,Aaz])
 | ((first|((first|refine call0D (BCall.ofP (Bqz _ _ _ _ ?_ ?_ ?_)) ?_|refine qcall0D (BCall.ofP (Bqz _ _ _ _ ?_ ?_ ?_)) ⟨_,_,rfl,rfl⟩ ?_);(iterate 3 (exact sd));rintro _ _ ⟨rfl,rfl⟩)|((first|refine call0D (BCall.ofP (ivBn_ok _ _ ?_ ?_)) ?_|refine qcall0D (BCall.ofP (ivBn_ok _ _ ?_ ?_)) ⟨_,_,rfl,rfl⟩ ?_);(iterate 2 (exact sd));rintro _ _ ⟨rfl,rfl⟩)|((first|refine call0D (BCall.ofP (svBu_ok _ _ _ _ ?_ ?_ ?_)) ?_|refine qcall0D (BCall.ofP (svBu_ok _ _ _ _ ?_ ?_ ?_)) ⟨_,_,rfl,rfl⟩ ?_);(iterate 3 (exact sd));rintro _ _ ⟨rfl,rfl⟩)|((first|refine call0D (iOpen_ok _ _ _ _ ?_ ?_ ?_) ?_|refine qcall0D (iOpen_ok _ _ _ _ ?_ ?_ ?_) ⟨_,_,rfl,rfl⟩ ?_);(iterate 3 (exact sd));rintro _ _ ⟨rfl,rfl⟩))<;>(try simp (disch:=omega) only [push_cast,seval,Aaz]))
 | (refine Ajz ⟨.inr rfl,_,rfl,?_⟩;(try simp (disch:=omega) only [push_cast,seval,Aaz]))))

end Go.Proofs.YtkpcjppnjmhanaaDoor
