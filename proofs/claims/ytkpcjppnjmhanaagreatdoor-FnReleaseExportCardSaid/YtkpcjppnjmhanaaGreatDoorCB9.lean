/- Texts of this verifier. -/
import Derived.Test.YtkpcjppnjmhanaaGreatDoorCB8
import Derived.Test.YtkpcjppnjmhanaaGreatDoorCM1
import Derived.Test.YtkpcjppnjmhanaaGreatDoorCW3
set_option maxHeartbeats 4000000
set_option linter.unusedSimpArgs false
set_option linter.unusedSectionVars false
set_option linter.unusedVariables false
set_option maxRecDepth 4000
namespace Go.Proofs.YtkpcjppnjmhanaaGreatDoor
open VwM Vw Go
variable [SentA]

end Go.Proofs.YtkpcjppnjmhanaaGreatDoor
namespace Go.Proofs.YtkpcjppnjmhanaaGreatDoor
open VwM Vw Go
variable [SentA]

theorem Hoz (cs:List Int) (es:List Ex) (m n:Nat) (id:Int) (hm:cs.length=m) (hn:es.length=n) (hb:m ≤ 1048576 ∧ n ≤ 1048576 ∧ exB 1048576 es) :
    PCall Tryz.prog 10 [.agg [.rows false (IL cs) m,.rows false (EL false es) n],.int .i64 id] (fun r=>r=.tup [.agg [.rows true (IL (ifB (relG cs es id) cs)) (ifB (relG cs es id) cs).length,.rows true (EL true (ifB (relG cs es id) (relE es id.toNat))) (ifB (relG cs es id) (relE es id.toNat)).length],.bool (relG cs es id)]) :=
  OBf_plain (iRel_ok cs es m n id hm hn hb)

end Go.Proofs.YtkpcjppnjmhanaaGreatDoor
namespace Go.Proofs.YtkpcjppnjmhanaaGreatDoor
open VwM Vw Go
variable [SentA]

theorem OBs_plain {P:Program} {f:Nat} {args:List AV} {ok:Bool} {cs:List Int} {es:List Ex} (h:BCall P f args [] (OBs ok cs es)):PCall P f args (fun r=>r=.tup [.agg [.rows true (IL cs) cs.length,.rows true (EL true es) es.length],.bool ok]):=by
  refine (BCall.plain h).mono ?_
  rintro r ⟨r0,H',⟨rfl,rfl⟩,rfl⟩
  simp [AV.ren,nthH,Hzz,Ayz]
theorem iOpenP_ok (cs:List Int) (es:List Ex) (m n:Nat) (hm:cs.length=m) (hn:es.length=n) (hb:m ≤ 1099511627776 ∧ n ≤ 1099511627776 ∧ exB 1099511627776 es) :
    PCall Tryz.prog 14 [.agg [.rows false (IL cs) m,.rows false (EL false es) n]] (fun r=>r=.rows true (IL (opensA cs es)) (opensA cs es).length):=by
  refine (BCall.plain (iOpen_ok cs es m n hm hn hb)).mono ?_
  rintro r ⟨r0,H',⟨rfl,rfl⟩,rfl⟩
  simp [AV.ren,nthH,List.map_map,Function.comp_def]


theorem eqVwS_ok (b:Int) (s t:List Int) (n m n' m':Nat) (h1:s.length=n) (h2:t.length=m) (h3:s.length=n') (h4:t.length=m') (hb:s.length ≤ 1099511627776 ∧ t.length ≤ 1099511627776):PCall Tryz.prog 51 [.agg [.int .i64 b,.rows false (IL s) n,.rows false (IL t) m],.agg [.int .i64 b,.rows false (IL s) n',.rows false (IL t) m']] (fun r=>r=.bool true):=by
  subst h1 h2 h3 h4
  obtain ⟨q1,q2⟩:=hb
  refine Avz l51_eq rfl ?_
  (repeat' (first
 | (first|refine Ahz ?_|refine Abz ?_)
 | ((first|refine Aiz ?_);simp (disch:=omega) only [push_cast,seval,l51r0,l51r1,decide_true])
 | ((first|refine Alz false ?_);simp (disch:=omega) only [push_cast,seval,decide_true])
 | ((first|((first|refine Akz (Ajz (Cjz _ _ _ _ ?_ ?_ ?_)) ?_|refine Afz (Ajz (Cjz _ _ _ _ ?_ ?_ ?_)) ⟨_,_,rfl,rfl⟩ ?_);(iterate 3 (exact sd));rintro _ _ ⟨rfl,rfl⟩))<;>(try simp (disch:=omega) only [push_cast,seval,decide_true]))
 | (refine Aez ⟨.inr rfl,_,rfl,?_⟩;(try simp (disch:=omega) only [push_cast,seval,decide_true]))))


set_option maxHeartbeats 8000000 in
theorem eqBufS_ok (cs:List Int) (es:List Ex) (n m n' m':Nat) (hn:cs.length=n) (hm:es.length=m) (hn':cs.length=n') (hm':es.length=m') (hb:cs.length ≤ 1099511627776 ∧ es.length ≤ 1099511627776 ∧ exB 1099511627776 es):PCall Tryz.prog 12 [.agg [.rows false (IL cs) n,.rows false (EL false es) m],.agg [.rows false (IL cs) n',.rows false (EL false es) m']] (fun r=>r=.bool true):=by
  subst hn hm hn' hm'
  refine Avz l12_eq rfl ?_
  obtain ⟨hb1,hb2,hb3⟩:=hb
  have hel:=Ayz false es
  (repeat' (first
 | (first|refine Ahz ?_|refine Abz ?_)
 | ((first|refine Aiz ?_|refine Adz ?_|refine Aoz ?_);simp (disch:=omega) only [push_cast,seval,l12r0,l12r1,l12r2,l12r3,l12r4,l12r5,l12r6,l12r7,l12r8,l12r9,l12r10,Aaz,hel,decide_true])
 | ((first|refine Alz false ?_);simp (disch:=omega) only [push_cast,seval,Aaz,hel,decide_true])
 | ((first|((first|refine Akz (Ajz (Cjz _ _ _ _ ?_ ?_ ?_)) ?_|refine Afz (Ajz (Cjz _ _ _ _ ?_ ?_ ?_)) ⟨_,_,rfl,rfl⟩ ?_);(iterate 3 (exact sd));rintro _ _ ⟨rfl,rfl⟩))<;>(try simp (disch:=omega) only [push_cast,seval,Aaz,hel,decide_true]))))
  refine C6z (fun i:Nat=>mkS [(2,.ref 32 2 0),(3,.ref 48 2 0),(5,.int .i64 i)] [(32,[.rows false (IL cs) cs.length,.rows false (EL false es) es.length]),(48,[.rows false (IL cs) cs.length,.rows false (EL false es) es.length])]) (fun i=>i ≤ es.length) (fun i=>es.length - i) 0 (Nat.zero_le _) ?_ ?_
  · refine SubW.of ?_
    (refine Sub.of_lists ?_ ?_ ?_ ?_ ?_<;>simp [Vw.mkS,Vw.lk,Vw.hk,AV.inn,innL,Apz,Anz,Arz,-List.map_set,-List.getD_eq_getElem?_getD,Aaz])
  · intro i hi
    by_cases hlt:i < es.length
    · obtain ⟨pp,b,x,y,o,he⟩:=Clz hlt
      obtain ⟨hx,hy⟩:=Ecz hb3 he
      have hil:i * 5 + 5 ≤ es.length * 5:=by omega
      have hd:=B5z false es i he
      simp only at hd
      have hxy:=And.intro hx hy
      (repeat' (first
 | (first|refine Ahz ?_|refine Abz ?_)
 | ((first|refine Aiz ?_|refine Adz ?_|refine Aoz ?_);simp (disch:=omega) only [push_cast,seval,l12r0,l12r1,l12r2,l12r3,l12r4,l12r5,l12r6,l12r7,l12r8,l12r9,l12r10,Aaz,hel,hil,hd,decide_true,bne_self_eq_false])
 | ((first|refine Amz (fun h=>?_) (fun h=>?_))<;>(try simp only [h])<;>(try simp only [bitvec_to_nat] at h)<;>(try simp only [h])<;>(first|(exfalso;omega)|(exfalso;simp_all;done)|(simp (disch:=omega) only [push_cast,seval,Aaz,hel,hil,hd,decide_true,bne_self_eq_false])|skip))
 | ((first|refine Alz false ?_);simp (disch:=omega) only [push_cast,seval,Aaz,hel,hil,hd,decide_true,bne_self_eq_false])
 | ((first|((first|refine Akz (Ajz (eqVwS_ok _ _ _ _ _ _ _ ?_ ?_ ?_ ?_ ?_)) ?_|refine Afz (Ajz (eqVwS_ok _ _ _ _ _ _ _ ?_ ?_ ?_ ?_ ?_)) ⟨_,_,rfl,rfl⟩ ?_);(iterate 5 (exact sd));rintro _ _ ⟨rfl,rfl⟩))<;>(try simp (disch:=omega) only [push_cast,seval,Aaz,hel,hil,hd,decide_true,bne_self_eq_false]))))
      refine ⟨i + 1,by omega,by omega,SubW.of ?_⟩
      (refine Sub.of_lists ?_ ?_ ?_ ?_ ?_<;>simp [Vw.mkS,Vw.lk,Vw.hk,AV.inn,innL,Apz,Anz,Arz,-List.map_set,-List.getD_eq_getElem?_getD,Aaz])
    · have e:i=es.length:=by omega
      subst e
      (repeat' (first
 | (first|refine Ahz ?_|refine Abz ?_)
 | ((first|refine Aiz ?_|refine Adz ?_|refine A1z ?_);simp (disch:=omega) only [push_cast,seval,l12r0,l12r1,l12r2,l12r3,l12r4,l12r5,l12r6,l12r7,l12r8,l12r9,l12r10,Aaz,hel,decide_true])
 | ((first|refine Amz (fun h=>?_) (fun h=>?_))<;>(try simp only [h])<;>(try simp only [bitvec_to_nat] at h)<;>(try simp only [h])<;>(first|(exfalso;omega)|(exfalso;simp_all;done)|(simp (disch:=omega) only [push_cast,seval,Aaz,hel,decide_true])|skip))))
      all_goals ((refine Aez ⟨.inr rfl,_,rfl,?_⟩;try simp (disch:=omega) only [push_cast,seval]))
      all_goals (try rfl)

end Go.Proofs.YtkpcjppnjmhanaaGreatDoor
namespace Go.Proofs.YtkpcjppnjmhanaaGreatDoor
open VwM Vw Go
variable [SentA]

/-- How many are kids of the buffer itself or of one of the first i. -/
def kS (es:List Ex) (k:Nat):Nat → Nat
  | 0=>(kidsT es (-1) k).length
  | i + 1=>kS es k i + (kidsT es (i:Int) k).length
theorem Gcz {es:List Ex}:∀ {k:Nat} {x:Int},x ∈ opensT es k → 0 ≤ x ∧ x < (k:Int)
  | 0,x,h=>by simp [opensT] at h
  | k + 1,x,h=>by
    cases he:es[k]? with
    | none =>
      simp only [opensT,he] at h
      have:=Gcz h
      omega
    | some e =>
      by_cases ho:e.2.2=true
      · rw [Cez he ho] at h
        rcases List.mem_append.1 h with h1|h1
        · have:=Gcz h1
          omega
        · rw [List.mem_singleton] at h1
          omega
      · rw [Cgz he ho] at h
        have:=Gcz h
        omega
theorem opens_gd {es:List Ex} (h:es.length ≤ 9) (j:Nat):-1000 ≤ (opensT es es.length).getD j 0 ∧ (opensT es es.length).getD j 0 ≤ 1000:=by
  by_cases hl:j < (opensT es es.length).length
  · have:=Gcz (Cyz hl)
    omega
  · rw [List.getD,List.getElem?_eq_none (Nat.le_of_not_lt hl)];simp
set_option maxHeartbeats 16000000 in
theorem idOf_ok (bs:List Int) (p:Int) (hbs:okB bs) (hp:0 ≤ p ∧ p ≤ 600000) :
    BCall Tryz.prog 40 [.ref 0 2 0] [RD bs p] (fun r H'=>∃ cs es id p',sbP cs es ∧ (-1000 ≤ id ∧ id ≤ 1000) ∧ (p ≤ p' ∧ p' ≤ p + 200) ∧ r=.tup [.agg [.own 1 cs.length 1,.own 2 es.length 5],.int .i64 id] ∧ H'=[RD bs p',IL cs,EL false es]):=by
  obtain ⟨hp1,hp2⟩:=hp
  refine Awz (pins:=[0]) (pin:=1) l40_eq rfl rfl rfl ?_
  have helc:=fun (c:Bool) (es:List Ex)=>Ayz c es
  (repeat' (first
 | (first|refine Ahz ?_|refine Abz ?_)
 | ((first|refine Aiz ?_);simp (disch:=omega) only [push_cast,seval,l40r0,l40r1,l40r2,l40r3,l40r4,l40r5,l40r6,l40r7,l40r8,l40r9a,l40r9b,l40r9,l40r10a,l40r10b,l40r10,Aaz])
 | ((first|((with_reducible refine A7z (f:=68) [0] true ?_);simp (disch:=omega) only [push_cast,seval,Aaz];(refine Hgz (id:=0) (someB_ok _ _ ?_ ?_) (by (simp (disch:=omega) only [push_cast,seval,Aaz])<;>rfl) ?_;(iterate 2 (exact sd));rintro _ _ ⟨csG,esG,pG,hsG,hpG,rfl,rfl⟩)))<;>(try simp (disch:=omega) only [push_cast,seval,Aaz]))))
  refine C6z (fun i:Nat=>mkS [(6,.int .i64 i),(5,.own 144 (opensT esG i).length 1),(4,.ref 64 2 0),(3,.int .i64 0),(2,.ref 32 2 0),(0,.ref 0 2 0)] [(144,IL (opensT esG i)),(64,[.own 128 csG.length 1,.own 129 esG.length 5]),(0,[.rows false (UL bs) bs.length,.int .i64 pG]),(128,IL csG),(129,EL false esG),(32,[.val (.slice none 0 0),.val (.slice none 0 0)])]) (fun i=>i ≤ esG.length) (fun i=>esG.length - i) 0 (Nat.zero_le _) ?_ ?_
  · have e0:opensT esG 0=[]:=rfl
    refine SubW.of ?_
    (refine Sub.of_lists ?_ ?_ ?_ ?_ ?_<;>simp [Vw.mkS,Vw.lk,Vw.hk,AV.inn,innL,Apz,Anz,Arz,-List.map_set,-List.getD_eq_getElem?_getD,Aaz,e0])
  · intro i hi
    have hs8:=hsG.2.1
    have hel:=Ayz false esG
    have hkl:=D0z esG i
    by_cases hlt:i < esG.length
    · obtain ⟨pp,b,x,y,o,he⟩:=Clz hlt
      have hd:=B5z false esG i he
      simp only at hd
      have hd4:((EL false esG).drop (i * 5 + 4)).take 1=[.bool o]:=by have:=congrArg (fun l=>(l.drop 4).take 1) hd;simpa [List.drop_take,List.take_take] using this
      have hil:i * 5 + 5 ≤ esG.length * 5:=by omega
      cases o with
 | false =>
        have e1:=Cgz he (by simp)
        (repeat' (first
 | (first|refine Ahz ?_|refine Abz ?_)
 | ((first|refine Aiz ?_|refine Adz ?_|refine Aoz ?_);simp (disch:=omega) only [push_cast,seval,l40r0,l40r1,l40r2,l40r3,l40r4,l40r5,l40r6,l40r7,l40r8,l40r9a,l40r9b,l40r9,l40r10a,l40r10b,l40r10,Aaz,hel,hil,hd4])
 | ((first|refine Amz (fun h=>?_) (fun h=>?_))<;>(try simp only [h])<;>(try simp only [bitvec_to_nat] at h)<;>(try simp only [h])<;>(first|(exfalso;omega)|(exfalso;simp_all;done)|(simp (disch:=omega) only [push_cast,seval,Aaz,hel,hil,hd4])|skip))))
        refine ⟨i + 1,by omega,by omega,SubW.of ?_⟩
        (refine Sub.of_lists ?_ ?_ ?_ ?_ ?_<;>simp [Vw.mkS,Vw.lk,Vw.hk,AV.inn,innL,Apz,Anz,Arz,-List.map_set,-List.getD_eq_getElem?_getD,Aaz,e1])
 | true =>
        have e1:=Cez he rfl
        (repeat' (first
 | (first|refine Ahz ?_|refine Abz ?_)
 | ((first|refine Aiz ?_|refine Adz ?_|refine Aoz ?_);simp (disch:=omega) only [push_cast,seval,l40r0,l40r1,l40r2,l40r3,l40r4,l40r5,l40r6,l40r7,l40r8,l40r9a,l40r9b,l40r9,l40r10a,l40r10b,l40r10,Aaz,hel,hil,hd4,hkl])
 | ((first|refine Amz (fun h=>?_) (fun h=>?_))<;>(try simp only [h])<;>(try simp only [bitvec_to_nat] at h)<;>(try simp only [h])<;>(first|(exfalso;omega)|(exfalso;simp_all;done)|(simp (disch:=omega) only [push_cast,seval,Aaz,hel,hil,hd4,hkl])|skip))))
        refine ⟨i + 1,by omega,by omega,SubW.of ?_⟩
        (refine Sub.of_lists ?_ ?_ ?_ ?_ ?_<;>simp [Vw.mkS,Vw.lk,Vw.hk,AV.inn,innL,Apz,Anz,Arz,-List.map_set,-List.getD_eq_getElem?_getD,Aaz,e1,List.length_append])
    · have e:i=esG.length:=by omega
      subst e
      (repeat' (first
 | (first|refine Ahz ?_|refine Abz ?_)
 | ((first|refine Aiz ?_|refine Cdz (mid:=l40r9a) (post:=l40r9b) [0,32] Bgz (by decide) ?_|refine Cdz (mid:=l40r10a) (post:=l40r10b) [0] Bgz (by decide) ?_|refine Adz ?_|refine Aoz ?_|refine A1z ?_);simp (disch:=omega) only [push_cast,seval,l40r0,l40r1,l40r2,l40r3,l40r4,l40r5,l40r6,l40r7,l40r8,l40r9a,l40r9b,l40r9,l40r10a,l40r10b,l40r10,Aaz,hel])
 | ((first|refine Amz (fun h=>?_) (fun h=>?_)|refine Bhz (fun h=>?_) (fun h=>?_))<;>(try simp only [h])<;>(try simp only [bitvec_to_nat] at h)<;>(try simp only [h])<;>(first|(exfalso;omega)|(exfalso;simp_all;done)|(simp (disch:=omega) only [push_cast,seval,Aaz,hel])|skip))
 | ((first|((with_reducible refine A7z (f:=65) [0] true ?_);simp (disch:=omega) only [push_cast,seval,Aaz,hel];(refine Hgz (id:=0) (Gzz _ _ _ ?_ ?_) (by (simp (disch:=omega) only [push_cast,seval,Aaz,hel])<;>rfl) ?_;(iterate 2 (exact sd));rintro _ _ ⟨x,hx0,hx1,rfl,rfl⟩))|((with_reducible refine Gaz (f:=65) [0] true ?_);simp (disch:=omega) only [push_cast,seval,Aaz,hel];(refine qcall1D (id:=0) (Gzz _ _ _ ?_ ?_) (by (simp (disch:=omega) only [push_cast,seval,Aaz,hel])<;>rfl) (by decide) ⟨_,_,0,by omega,Or.inr (Or.inr rfl),rfl,rfl⟩ ?_;(iterate 2 (exact sd));rintro _ _ ⟨x,hx0,hx1,rfl,rfl⟩))|((with_reducible refine Gaz (f:=57) [0] true ?_);simp (disch:=omega) only [push_cast,seval,Aaz,hel];(refine qcall1D (id:=0) (oneR_ok _ _ _ _ ?_ ?_ ?_ ?_ ?_) (by (simp (disch:=omega) only [push_cast,seval,Aaz,hel])<;>rfl) (by decide) (by simp only [F4z,Huz];exact ⟨_,_,_,List.mem_cons_self,by omega,rfl,rfl⟩) ?_;(iterate 5 (exact sd));rintro _ _ ⟨x,hx,hx0,rfl,rfl⟩)))<;>(try simp (disch:=omega) only [push_cast,seval,Aaz,hel]))))
      all_goals ((refine Aez ⟨.inr rfl,[128,129],[],_,by decide,rfl,?_⟩;(try simp (disch:=omega) only [push_cast,seval,↓Agz,↓Acz,↓List.map_cons,↓List.map_nil,Aaz])))
      all_goals first
        | exact ⟨csG,esG,_,_,hsG,opens_gd hs8 _,by omega,rfl,rfl⟩
        | exact ⟨csG,esG,_,_,hsG,by assumption,by omega,rfl,rfl⟩



end Go.Proofs.YtkpcjppnjmhanaaGreatDoor
namespace Go.Proofs.YtkpcjppnjmhanaaGreatDoor
open VwM Vw Go
variable [SentA]

theorem Ggz {es:List Ex} {q:Nat}:∀ {k:Nat},(q:Int) ∈ opensT es k → ∃ e,es[q]?=some e ∧ e.2.2=true
  | 0,h=>by simp [opensT] at h
  | k + 1,h=>by
    cases he:es[k]? with
    | none =>
      simp only [opensT,he] at h
      exact Ggz h
    | some e =>
      by_cases ho:e.2.2=true
      · rw [Cez he ho] at h
        rcases List.mem_append.1 h with h1|h1
        · exact Ggz h1
        · rw [List.mem_singleton] at h1
          have:q=k:=by omega
          subst this
          exact ⟨e,he,ho⟩
      · rw [Cgz he ho] at h
        exact Ggz h
theorem opens_rel {es:List Ex} {q:Nat} {e:Ex} (he:es[q]?=some e) (ho:e.2.2=true):∀ k:Nat,(opensT (relE es q) k).length + (if q < k then 1 else 0)=(opensT es k).length
  | 0=>rfl
  | k + 1=>by
    have ih:=opens_rel he ho k
    have hq:=(List.getElem?_eq_some_iff.1 he).1
    by_cases e1:q=k
    · subst e1
      have h1:(relE es q)[q]?=some (e.1,e.2.1,false):=by rw [Gyz he,List.getElem?_set_self hq]
      rw [Cgz h1 (by simp),Cez he ho,if_pos (by omega),List.length_append,List.length_singleton]
      rw [if_neg (by omega)] at ih
      omega
    · have h1:(relE es q)[k]?=es[k]?:=by rw [Gyz he,List.getElem?_set_ne e1]
      have h2:(if q < k + 1 then 1 else 0)=(if q < k then 1 else 0):=by
        by_cases h3:q < k
        · rw [if_pos h3,if_pos (by omega)]
        · rw [if_neg h3,if_neg (by omega)]
      rw [h2]
      cases hf:es[k]? with
 | none =>
        rw [hf] at h1
        simp only [opensT,hf,h1]
        exact ih
 | some f =>
        rw [hf] at h1
        by_cases hfo:f.2.2=true
        · rw [Cez h1 hfo,Cez hf hfo,List.length_append,List.length_append]
          simp only [List.length_singleton]
          omega
        · rw [Cgz h1 hfo,Cgz hf hfo]
          exact ih
/-- What holds after a release. -/
theorem rel_facts {cs:List Int} {es:List Ex} {id:Int} (h:relG cs es id=true):relG cs (relE es id.toNat) id=false ∧ id ∉ opensA cs (relE es id.toNat) ∧ (opensA cs (relE es id.toNat)).length + 1=(opensA cs es).length ∧ (vB cs (relE es id.toNat) && opA (relE es id.toNat) id)=false:=by
  have hv2:=vB_relG h
  unfold relG at h
  simp only [Bool.and_eq_true,decide_eq_true_eq] at h
  obtain ⟨⟨hv,hop⟩,hk⟩:=h
  obtain ⟨q,p,b,x,y,rfl,hq,he,_⟩:=Fnz hop
  rw [Int.toNat_natCast] at hv2 ⊢
  have h1:(relE es q)[q]?=some (p,(b,x,y),false):=by rw [Gyz he,List.getElem?_set_self hq]
  have h2:opA (relE es q) (q:Int)=false:=by
    unfold opA
    simp only [Int.toNat_natCast,h1,Bool.and_false]
  refine ⟨?_,?_,?_,?_⟩
  · unfold relG;rw [h2,Bool.and_false,Bool.false_and]
  · unfold opensA
    rw [if_pos hv2]
    intro hm
    obtain ⟨f,hf,ho⟩:=Ggz hm
    rw [h1] at hf
    injection hf with hf
    subst hf
    cases ho
  · unfold opensA
    rw [if_pos hv2,if_pos hv,Dcz]
    have:=opens_rel he rfl es.length
    rw [if_pos hq] at this
    exact this
  · rw [h2,Bool.and_false]
theorem exB_rl {n:Nat} {es:List Ex} (q:Nat) (h:exB n es):exB n (relE es q):=by
  unfold relE
  split
  · rename_i e he
    intro f hf
    rcases List.mem_or_eq_of_mem_set hf with h1|h1
    · exact h f h1
    · subst h1;exact h e (List.mem_of_getElem? he)
  · exact h
abbrev rlQ (cs:List Int) (es:List Ex) (id:Int):Prop:=(-1000 ≤ id ∧ id ≤ 1000) ∧ (opensA cs es).length ≤ es.length ∧ (ifB (relG cs es id) cs).length ≤ 1099511627776 ∧ (ifB (relG cs es id) (relE es id.toNat)).length ≤ 1099511627776 ∧ exB 1099511627776 (ifB (relG cs es id) (relE es id.toNat))
theorem rlQ_of {cs:List Int} {es:List Ex} {id:Int} (h:sbQ cs es) (hs:-1000 ≤ id ∧ id ≤ 1000):rlQ cs es id:=by
  have h1:=h.1
  refine ⟨hs,I9z cs es,?_⟩
  cases relG cs es id with
  | false=>exact ⟨Nat.zero_le _,Nat.zero_le _,fun e he=>by cases he⟩
  | true=>exact ⟨h1.1,by rw [Cnz,Dcz];exact h1.2.1,exB_rl _ h1.2.2⟩


theorem drawREB_ok (bs:List Int) (n:Nat) (hn:bs.length=n) (hb:n ≤ 1099511627776 ∧ ∀ x ∈ bs,0 ≤ x ∧ x ≤ 255):BCall Tryz.prog 9 [.rows false (UL bs) n] [] (fun r H'=>∃ cs es id,sbQ cs es ∧ (-1000 ≤ id ∧ id ≤ 1000) ∧ r=.tup [.agg [.own 0 cs.length 1,.own 1 es.length 5],.int .i64 id] ∧ H'=[IL cs,EL false es]):=by
  subst hn
  refine Awz (pins:=[]) (pin:=0) l9_eq rfl rfl rfl ?_
  (repeat' (first
 | (first|refine Ahz ?_|refine Abz ?_)
 | ((first|refine Aiz ?_);simp (disch:=omega) only [push_cast,seval,l9r0,l9r1,Aaz])
 | ((first|((with_reducible refine Alz (f:=41) true ?_);simp (disch:=omega) only [push_cast,seval,Aaz];(refine Akz (newReader_ok _ _ ?_ ?_) ?_;(iterate 2 (exact sd));rintro _ _ ⟨bs0,hbs0,rfl,rfl⟩))|((with_reducible refine A7z (f:=40) [80] true ?_);simp (disch:=omega) only [push_cast,seval,Aaz];(refine Hgz (id:=80) (idOf_ok _ _ ?_ ?_) (by (simp (disch:=omega) only [push_cast,seval,Aaz])<;>rfl) ?_;(iterate 2 (exact sd));rintro _ _ ⟨csG,esG,idG,pG,hsG,hiG,hpG,rfl,rfl⟩)))<;>(try simp (disch:=omega) only [push_cast,seval,Aaz]))))
  all_goals ((refine Aez ⟨.inr rfl,[96,97],[],_,by decide,rfl,?_⟩;(try simp (disch:=omega) only [push_cast,seval,↓Agz,↓Acz,↓List.map_cons,↓List.map_nil,Aaz])))
  all_goals exact ⟨csG,esG,idG,sbQ_of hsG,hiG,rfl,rfl⟩
theorem drawRE_ok (bs:List Int) (n:Nat) (hn:bs.length=n) (hb:n ≤ 1099511627776 ∧ ∀ x ∈ bs,0 ≤ x ∧ x ≤ 255):PCall Tryz.prog 9 [.rows false (UL bs) n] (fun r=>∃ cs es id,sbQ cs es ∧ rlQ cs es id ∧ r=.tup [.agg [.rows true (IL cs) cs.length,.rows true (EL false es) es.length],.int .i64 id]):=by
  refine (BCall.plain (drawREB_ok bs n hn hb)).mono ?_
  rintro r ⟨r0,H',⟨cs,es,id,h,hs,rfl,rfl⟩,rfl⟩
  refine ⟨cs,es,id,h,rlQ_of h hs,?_⟩
  simp [AV.ren,nthH,Hzz,Ayz]




theorem sRelP_ok (cs:List Int) (es:List Ex) (m n:Nat) (id:Int) (hm:cs.length=m) (hn:es.length=n) (hb:m ≤ 1099511627776 ∧ n ≤ 1099511627776 ∧ exB 1099511627776 es) :
    PCall Tryz.prog 11 [.agg [.rows false (IL cs) m,.rows false (EL false es) n],.int .i64 id] (fun r=>r=.tup [.agg [.rows true (IL (ifB (relG cs es id) cs)) (ifB (relG cs es id) cs).length,.rows true (EL true (ifB (relG cs es id) (relE es id.toNat))) (ifB (relG cs es id) (relE es id.toNat)).length],.bool (relG cs es id)]) :=
  OBs_plain (sRel_ok cs es m n id hm hn hb)


theorem iLE0_ok (cs:List Int) (es:List Ex) (m n:Nat) (id:Int) (hm:cs.length=m) (hn:es.length=n) (hb:(m ≤ 1099511627776 ∧ n ≤ 1099511627776 ∧ exB 1099511627776 es) ∧ (vB cs es && opA es id)=false) :
    PCall Tryz.prog 16 [.agg [.rows false (IL cs) m,.rows false (EL false es) n],.int .i64 id] (fun r=>r=.val (.slice none 0 0)):=by
  subst hm hn
  obtain ⟨hb0,hc⟩:=hb
  obtain ⟨hb1,hb2,hb3⟩:=hb0
  have hel:=Ayz false es
  refine Avz l16_eq rfl ?_
  (repeat' (first
 | (first|refine Ahz ?_|refine Abz ?_)
 | ((first|refine Aiz ?_|refine Adz ?_);simp (disch:=omega) only [push_cast,seval,l16r0,l16r1,l16r2,l16r3a,l16r3b,l16r3,hc,hel,Aaz])
 | ((first|refine Alz false ?_);simp (disch:=omega) only [push_cast,seval,hc,hel,Aaz])
 | ((first|((first|refine Akz (Ajz (Hdz _ _ _ _ _ ?_ ?_ ?_)) ?_|refine Afz (Ajz (Hdz _ _ _ _ _ ?_ ?_ ?_)) ⟨_,_,rfl,rfl⟩ ?_);(iterate 3 (exact sd));rintro _ _ ⟨rfl,rfl⟩))<;>(try simp (disch:=omega) only [push_cast,seval,hc,hel,Aaz]))))
  all_goals ((refine Aez ⟨.inr rfl,_,rfl,?_⟩;try simp (disch:=omega) only [push_cast,seval]))
  all_goals (try rfl)


set_option maxHeartbeats 32000000 in
theorem lREf_ok (bs:List Int) (hn:bs.length ≤ 9223372036854775807) (hb:∀ x ∈ bs,0 ≤ x ∧ x ≤ 255):PCall Tryz.prog 3 [.rows false (UL bs) bs.length] (fun r=>r=.bool true):=by
  refine Avz l3_eq rfl ?_
  by_cases h:bs.length ≤ 1048576
  · have q:bs.length ≤ 1099511627776 ∧ ∀ x ∈ bs,0 ≤ x ∧ x ≤ 255:=⟨by omega,hb⟩
    (repeat' (first
 | (first|refine Ahz ?_|refine Abz ?_)
 | ((first|refine Aiz ?_|refine Adz ?_|refine Aoz ?_);simp (disch:=omega) only [push_cast,seval,l3r0,l3r1,l3r2,l3r3,l3r4,l3r5,l3r6,l3r7,l3r8,l3r9a,l3r9b,l3r9,Aaz,bne_self_eq_false,decide_true])
 | ((first|refine Amz (fun h=>?_) (fun h=>?_))<;>(try simp only [h])<;>(try simp only [bitvec_to_nat] at h)<;>(try simp only [h])<;>(first|(exfalso;omega)|(exfalso;simp_all;done)|(simp (disch:=omega) only [push_cast,seval,Aaz,bne_self_eq_false,decide_true])|skip))
 | ((first|((with_reducible refine Alz (f:=9) true ?_);simp (disch:=omega) only [push_cast,seval,Aaz,bne_self_eq_false,decide_true];(refine Akz (Ajz (drawRE_ok _ _ ?_ ?_)) ?_;(iterate 2 (exact sd));rintro _ _ ⟨⟨cs,es,id,⟨hs1,hs2,hs3,hs4,hs5⟩,⟨hk1,hol,hq1⟩,rfl⟩,rfl⟩)))<;>(try simp (disch:=omega) only [push_cast,seval,Aaz,bne_self_eq_false,decide_true]))
 | ((first|refine Alz false ?_);simp (disch:=omega) only [push_cast,seval,Aaz,bne_self_eq_false,decide_true])
 | ((first|((first|refine Akz (Ajz (Hoz _ _ _ _ _ ?_ ?_ ?_)) ?_|refine Afz (Ajz (Hoz _ _ _ _ _ ?_ ?_ ?_)) ⟨_,_,rfl,rfl⟩ ?_);(iterate 3 (exact sd));rintro _ _ ⟨rfl,rfl⟩)|((first|refine Akz (Ajz (sRelP_ok _ _ _ _ _ ?_ ?_ ?_)) ?_|refine Afz (Ajz (sRelP_ok _ _ _ _ _ ?_ ?_ ?_)) ⟨_,_,rfl,rfl⟩ ?_);(iterate 3 (exact sd));rintro _ _ ⟨rfl,rfl⟩)|((first|refine Akz (Ajz (eqBufS_ok _ _ _ _ _ _ ?_ ?_ ?_ ?_ ?_)) ?_|refine Afz (Ajz (eqBufS_ok _ _ _ _ _ _ ?_ ?_ ?_ ?_ ?_)) ⟨_,_,rfl,rfl⟩ ?_);(iterate 5 (exact sd));rintro _ _ ⟨rfl,rfl⟩))<;>(try simp (disch:=omega) only [push_cast,seval,Aaz,bne_self_eq_false,decide_true]))))
    · (refine Aez ⟨.inr rfl,_,rfl,?_⟩;try simp (disch:=omega) only [push_cast,seval,beq_self_eq_true])
      all_goals (try simp)
    · obtain ⟨f1,f2,f3,f4⟩:=rel_facts h
      rw [h] at hq1
      simp only [Cnz] at hq1 ⊢
      have hrl:=Dcz es id.toNat
      have q2:cs.length ≤ 1048576 ∧ (relE es id.toNat).length ≤ 1048576 ∧ exB 1048576 (relE es id.toNat):=⟨hs2.1,by omega,exB_rl _ hs2.2.2⟩
      have f2':decide (id ∈ opensA cs (relE es id.toNat))=false:=decide_eq_false f2
      have q8:(cs.length ≤ 1099511627776 ∧ (relE es id.toNat).length ≤ 1099511627776 ∧ exB 1099511627776 (relE es id.toNat)) ∧ (vB cs (relE es id.toNat) && opA (relE es id.toNat) id)=false:=⟨⟨hs1.1,by omega,exB_rl _ hs1.2.2⟩,f4⟩
      have hl1:((opensA cs (relE es id.toNat)).length:Int)=((opensA cs es).length:Int) - 1:=by omega
      generalize hR:relE es id.toNat=R at *
      (repeat' (first
 | (first|refine Ahz ?_|refine Abz ?_)
 | ((first|refine Axz (mid:=l3r9a) (post:=l3r9b) Bgz (by decide) ?_);simp (disch:=omega) only [push_cast,seval,l3r0,l3r1,l3r2,l3r3,l3r4,l3r5,l3r6,l3r7,l3r8,l3r9a,l3r9b,l3r9,Aaz,bne_self_eq_false,decide_true,decide_false,f1,f2',hl1])
 | ((first|refine Alz false ?_|refine Azz false ?_);simp (disch:=omega) only [push_cast,seval,Aaz,bne_self_eq_false,decide_true,decide_false,f1,f2',hl1])
 | ((first|((first|refine Akz (Ajz (Hoz _ _ _ _ _ ?_ ?_ ?_)) ?_|refine Afz (Ajz (Hoz _ _ _ _ _ ?_ ?_ ?_)) ⟨_,_,rfl,rfl⟩ ?_);(iterate 3 (exact sd));rintro _ _ ⟨rfl,rfl⟩)|((first|refine Akz (Ajz (iOpenP_ok _ _ _ _ ?_ ?_ ?_)) ?_|refine Afz (Ajz (iOpenP_ok _ _ _ _ ?_ ?_ ?_)) ⟨_,_,rfl,rfl⟩ ?_);(iterate 3 (exact sd));rintro _ _ ⟨rfl,rfl⟩)|((first|refine Akz (Ajz (isInL_ok _ _ _ ?_ ?_)) ?_|refine Afz (Ajz (isInL_ok _ _ _ ?_ ?_)) ⟨_,_,rfl,rfl⟩ ?_);(iterate 2 (exact sd));rintro _ _ ⟨rfl,rfl⟩)|((first|refine Akz (Ajz (Cjz _ _ _ _ ?_ ?_ ?_)) ?_|refine Afz (Ajz (Cjz _ _ _ _ ?_ ?_ ?_)) ⟨_,_,rfl,rfl⟩ ?_);(iterate 3 (exact sd));rintro _ _ ⟨rfl,rfl⟩)|((first|refine Akz (Ajz (iLE0_ok _ _ _ _ _ ?_ ?_ ?_)) ?_|refine Afz (Ajz (iLE0_ok _ _ _ _ _ ?_ ?_ ?_)) ⟨_,_,rfl,rfl⟩ ?_);(iterate 3 (exact sd));rintro _ _ ⟨rfl,rfl⟩))<;>(try simp (disch:=omega) only [push_cast,seval,Aaz,bne_self_eq_false,decide_true,decide_false,f1,f2',hl1]))))
      all_goals ((refine Aez ⟨.inr rfl,_,rfl,?_⟩;try simp (disch:=omega) only [push_cast,seval]))
      all_goals (try rfl)
  · (repeat' (first
 | (first|refine Ahz ?_|refine Abz ?_)
 | ((first|refine Aiz ?_|refine Adz ?_);simp (disch:=omega) only [push_cast,seval,l3r0,l3r1,l3r2,l3r3,l3r4,l3r5,l3r6,l3r7,l3r8,l3r9a,l3r9b,l3r9,Aaz])
 | ((first|refine Amz (fun h=>?_) (fun h=>?_))<;>(try simp only [h])<;>(try simp only [bitvec_to_nat] at h)<;>(try simp only [h])<;>(first|(exfalso;omega)|(exfalso;simp_all;done)|(simp (disch:=omega) only [push_cast,seval,Aaz])|skip))
 | (refine Aez ⟨.inr rfl,_,rfl,?_⟩;(try simp (disch:=omega) only [push_cast,seval,Aaz]))))

end Go.Proofs.YtkpcjppnjmhanaaGreatDoor
namespace Go.Proofs.YtkpcjppnjmhanaaGreatDoor
open VwM Vw Go
variable [SentA]

end Go.Proofs.YtkpcjppnjmhanaaGreatDoor
namespace Go.Proofs.YtkpcjppnjmhanaaGreatDoor
open VwM Vw Go
variable [SentA]

end Go.Proofs.YtkpcjppnjmhanaaGreatDoor
namespace Go.Proofs.YtkpcjppnjmhanaaGreatDoor
open VwM Vw Go
variable [SentA]

end Go.Proofs.YtkpcjppnjmhanaaGreatDoor
namespace Go.Proofs.YtkpcjppnjmhanaaGreatDoor
open VwM Vw Go
variable [SentA]

end Go.Proofs.YtkpcjppnjmhanaaGreatDoor
namespace Go.Proofs.YtkpcjppnjmhanaaGreatDoor
open VwM Vw Go
variable [SentA]

end Go.Proofs.YtkpcjppnjmhanaaGreatDoor
namespace Go.Proofs.YtkpcjppnjmhanaaGreatDoor
open VwM Vw Go
variable [SentA]

end Go.Proofs.YtkpcjppnjmhanaaGreatDoor
namespace Go.Proofs.YtkpcjppnjmhanaaGreatDoor
open VwM Vw Go
variable [SentA]

end Go.Proofs.YtkpcjppnjmhanaaGreatDoor
namespace Go.Proofs.YtkpcjppnjmhanaaGreatDoor
open VwM Vw Go
variable [SentA]

end Go.Proofs.YtkpcjppnjmhanaaGreatDoor
namespace Go.Proofs.YtkpcjppnjmhanaaGreatDoor
open VwM Vw Go
variable [SentA]

end Go.Proofs.YtkpcjppnjmhanaaGreatDoor
