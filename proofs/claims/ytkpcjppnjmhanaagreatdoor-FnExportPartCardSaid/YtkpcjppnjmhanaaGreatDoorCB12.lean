/- Texts of this verifier. -/
import Derived.Test.YtkpcjppnjmhanaaGreatDoorCB11
import Derived.Test.YtkpcjppnjmhanaaGreatDoorCM1
import Derived.Test.YtkpcjppnjmhanaaGreatDoorCW3
set_option maxHeartbeats 4000000
set_option linter.unusedSimpArgs false
set_option linter.unusedSectionVars false
set_option linter.unusedVariables false
set_option maxRecDepth 4000
namespace Go.Proofs.YtkpcjppnjmhanaaGreatDoor
open VwM Vw Go
variable [SentA]

theorem bd_covers {b:Int} {sh st:List Int} {j:Nat} {f t w:Int} {hf ht:Bool} (hv:vV b sh st=true) (hj:j < sh.length) (hs:vS f t w hf ht=true) :
    coB b sh st (cutB b sh st j f t w hf ht) (cutSh sh j f t w hf ht) (cutSt sh st j f t w hf ht)=true:=by
  have hvc:=vV_cut hv hj hs
  unfold coB ovB inclB
  rw [hv,hvc]
  exact decide_eq_true fun x hx=>cut_sub hv hj hs hx
theorem kids_has {es:List Ex} {q n:Nat} {e:Ex} (hq:es[q]?=some e) (ho:e.2.2=true):∀ {k:Nat},q < k → (q:Int) ∈ kidsT es e.1 k
  | 0,h=>absurd h (Nat.not_lt_zero _)
  | k + 1,h=>by
    by_cases e1:q=k
    · subst e1
      rw [Flz hq ⟨ho,rfl⟩]
      exact List.mem_append_right _ (List.mem_singleton.2 rfl)
    · have ih:=kids_has (n:=n) hq ho (k:=k) (by omega)
      cases hk:es[k]? with
 | none=>simp only [kidsT,hk];exact ih
 | some f =>
        by_cases hf:f.2.2=true ∧ f.1=e.1
        · rw [Flz hk hf];exact List.mem_append_left _ ih
        · rw [E1z hk hf];exact ih
/-- What is true of a new part. -/
theorem ep_facts {cs:List Int} {es:List Ex} {id d f t w:Int} {hf ht:Bool} (h:epG cs es id d f t w hf ht=true):∃ (q:Nat) (p b:Int) (x y:List Int) (v:Vw3),id=q ∧ q < es.length ∧ (epE es id d f t w hf ht)[q]?=some (p,(b,x,y),true) ∧ (epE es id d f t w hf ht)[es.length]?=some ((q:Int),v,true) ∧ (epE es id d f t w hf ht).length=es.length + 1 ∧
    coB b x y v.1 v.2.1 v.2.2=true ∧ ((es.length:Int) ∈ kidsA cs (epE es id d f t w hf ht) id):=by
  have hv2:=vB_ep h
  unfold epG at h
  simp only [Bool.and_eq_true,Bool.not_eq_true',decide_eq_false_iff_not] at h
  obtain ⟨⟨⟨hv,hr⟩,h8⟩,ho⟩:=h
  obtain ⟨q,p,b,x,y,rfl,hq,he,hvw⟩:=Gnz hr
  have hlast:(epE es (q:Int) d f t w hf ht)[es.length]?=some ((q:Int),epV es (q:Int) d f t w hf ht,true):=by
    unfold epE
    rw [List.getElem?_append_right (Nat.le_refl _),Nat.sub_self];rfl
  have hlen:(epE es (q:Int) d f t w hf ht).length=es.length + 1:=by unfold epE;rw [List.length_append,List.length_singleton]
  refine ⟨q,p,b,x,y,epV es (q:Int) d f t w hf ht,rfl,hq,?_,hlast,hlen,?_,?_⟩
  · unfold epE
    rw [List.getElem?_append_left hq];exact he
  · unfold epO at ho
    rw [hvw] at ho
    obtain ⟨g1,g2,g3,g4⟩:=Klz ho
    unfold epV
    rw [hvw]
    exact bd_covers g1 g2 g3
  · rw [kidsA_at hv2 (q:Int) (by omega) (by omega)]
    exact kids_has (n:=0) hlast rfl (by omega)
theorem EL_take3c (c:Bool) {es:List Ex} {q:Nat} {p b:Int} {x y:List Int} {o:Bool} (he:es[q]?=some (p,(b,x,y),o)):((EL c es).drop (q * 5 + 1)).take 3=[.int .i64 b,.rows c (IL x) x.length,.rows c (IL y) y.length]:=by
  have hd:=Cez c es q he
  simp only at hd
  have:=congrArg (fun l=>(l.drop 1).take 3) hd
  simpa [List.drop_take,List.drop_drop,List.take_take] using this
abbrev pxQ (cs:List Int) (es:List Ex) (id d f t w:Int) (hf ht:Bool):Prop:=(-1000 ≤ id ∧ id ≤ 1000) ∧ ((ifB (epG cs es id d f t w hf ht) cs).length ≤ 1099511627776 ∧ (ifB (epG cs es id d f t w hf ht) (epE es id d f t w hf ht)).length ≤ 1099511627776 ∧ exB 1099511627776 (ifB (epG cs es id d f t w hf ht) (epE es id d f t w hf ht)))
theorem pxQ_of {cs:List Int} {es:List Ex} {id d f t w:Int} {hf ht:Bool} (h:sbQ cs es) (hs:-1000 ≤ id ∧ id ≤ 1000):pxQ cs es id d f t w hf ht:=by
  refine ⟨hs,?_⟩
  cases hg:epG cs es id d f t w hf ht with
  | false=>exact ⟨Nat.zero_le _,Nat.zero_le _,fun e he=>by cases he⟩
  | true=>exact vB_x (vB_ep hg)


theorem drawEPB_ok (bs:List Int) (n:Nat) (hn:bs.length=n) (hb:n ≤ 1099511627776 ∧ ∀ x ∈ bs,0 ≤ x ∧ x ≤ 255):BCall Tryz.prog 35 [.rows false (UL bs) n] [] (fun r H'=>∃ cs es id d f t w hf ht,sbQ cs es ∧ (-1000 ≤ id ∧ id ≤ 1000) ∧ r=.tup [.agg [.own 0 cs.length 1,.own 1 es.length 5],.int .i64 id,.int .i64 d,slc f t w hf ht] ∧ H'=[IL cs,EL false es]):=by
  subst hn
  refine Axz (pins:=[]) (pin:=0) l35_eq rfl rfl rfl ?_
  (repeat' (first
 | (first|refine Ahz ?_|refine Abz ?_)
 | ((first|refine Aiz ?_|refine Buz (mid:=l35r3a) (post:=l35r3b) [160,32] mixed (by decide) ?_);simp (disch:=omega) only [push_cast,seval,l35r0,l35r1,l35r2,l35r3a,l35r3b,l35r3,Aaz])
 | ((first|((with_reducible refine Alz (f:=41) true ?_);simp (disch:=omega) only [push_cast,seval,Aaz];(refine Akz (newReader_ok _ _ ?_ ?_) ?_;(iterate 2 (exact sd));rintro _ _ ⟨bs0,hbs0,rfl,rfl⟩))|((with_reducible refine A3z (f:=40) [160] true ?_);simp (disch:=omega) only [push_cast,seval,Aaz];(refine D6z (id:=160) (idOf_ok _ _ ?_ ?_) (by (simp (disch:=omega) only [push_cast,seval,Aaz])<;>rfl) ?_;(iterate 2 (exact sd));rintro _ _ ⟨csG,esG,idG,pG,hsG,hiG,hpG,rfl,rfl⟩))|((with_reducible refine Ekz (f:=57) [160] true ?_);simp (disch:=omega) only [push_cast,seval,Aaz];(refine I9z (id:=160) (oneR_ok _ _ _ _ ?_ ?_ ?_ ?_ ?_) (by (simp (disch:=omega) only [push_cast,seval,Aaz])<;>rfl) (by decide) (by simp only [Fxz,Hyz];exact ⟨_,_,_,List.mem_cons_self,by omega,rfl,rfl⟩) ?_;(iterate 5 (exact sd));rintro _ _ ⟨x,hx,hx0,rfl,rfl⟩))|((with_reducible refine Ekz (f:=75) [160] true ?_);simp (disch:=omega) only [push_cast,seval,Aaz];(refine I9z (id:=160) (someSlice_ok _ _ ?_ ?_) (by (simp (disch:=omega) only [push_cast,seval,Aaz])<;>rfl) (by decide) ⟨_,_,0,0,0,false,false,_,by omega,⟨Int.le_refl _,by omega⟩,rfl,rfl⟩ ?_;(iterate 2 (exact sd));rintro _ _ ⟨f,t,w,hf,ht,q,hs,hq,rfl,rfl⟩)))<;>(try simp (disch:=omega) only [push_cast,seval,Aaz]))))
  all_goals ((refine Aez ⟨.inr rfl,[208,209],[],_,by decide,rfl,?_⟩;(try simp (disch:=omega) only [push_cast,seval,↓Afz,↓Acz,↓List.map_cons,↓List.map_nil,Aaz])))
  all_goals exact ⟨csG,esG,idG,_,_,_,_,_,_,sbQ_of hsG,hiG,rfl,rfl⟩
theorem drawEP_ok (bs:List Int) (n:Nat) (hn:bs.length=n) (hb:n ≤ 1099511627776 ∧ ∀ x ∈ bs,0 ≤ x ∧ x ≤ 255):PCall Tryz.prog 35 [.rows false (UL bs) n] (fun r=>∃ cs es id d f t w hf ht,sbQ cs es ∧ pxQ cs es id d f t w hf ht ∧ r=.tup [.agg [.rows true (IL cs) cs.length,.rows true (EL false es) es.length],.int .i64 id,.int .i64 d,slc f t w hf ht]):=by
  refine (BCall.plain (drawEPB_ok bs n hn hb)).mono ?_
  rintro r ⟨r0,H',⟨cs,es,id,d,f,t,w,hf,ht,h,hs,rfl,rfl⟩,rfl⟩
  refine ⟨cs,es,id,d,f,t,w,hf,ht,h,pxQ_of h hs,?_⟩
  simp [AV.ren,nthH,I8z,A1z,slc]


theorem iEPP2_ok (cs:List Int) (es:List Ex) (m n:Nat) (id d f t w:Int) (hf ht:Bool) (hm:cs.length=m) (hn:es.length=n) (hb:m ≤ 1048576 ∧ n ≤ 1048576 ∧ exB 1048576 es) :
    PCall Tryz.prog 36 [.agg [.rows false (IL cs) m,.rows false (EL false es) n],.int .i64 id,.int .i64 d,slc f t w hf ht] (fun r=>r=.tup [.agg [.rows true (IL (ifB (epG cs es id d f t w hf ht) cs)) (ifB (epG cs es id d f t w hf ht) cs).length,.rows true (EL true (ifB (epG cs es id d f t w hf ht) (epE es id d f t w hf ht))) (ifB (epG cs es id d f t w hf ht) (epE es id d f t w hf ht)).length],.bool (epG cs es id d f t w hf ht)]) :=
  OBf_plain (iEP_ok cs es m n id d f t w hf ht hm hn hb)


theorem sEPP2_ok (cs:List Int) (es:List Ex) (m n:Nat) (id d f t w:Int) (hf ht:Bool) (hm:cs.length=m) (hn:es.length=n) (hb:m ≤ 1099511627776 ∧ n ≤ 1099511627776 ∧ exB 1099511627776 es) :
    PCall Tryz.prog 37 [.agg [.rows false (IL cs) m,.rows false (EL false es) n],.int .i64 id,.int .i64 d,slc f t w hf ht] (fun r=>r=.tup [.agg [.rows true (IL (ifB (epG cs es id d f t w hf ht) cs)) (ifB (epG cs es id d f t w hf ht) cs).length,.rows true (EL true (ifB (epG cs es id d f t w hf ht) (epE es id d f t w hf ht))) (ifB (epG cs es id d f t w hf ht) (epE es id d f t w hf ht)).length],.bool (epG cs es id d f t w hf ht)]) :=
  OBs_plain (sEP_ok cs es m n id d f t w hf ht hm hn hb)


set_option maxHeartbeats 64000000 in
theorem lEPf_ok (bs:List Int) (hn:bs.length ≤ 9223372036854775807) (hb:∀ x ∈ bs,0 ≤ x ∧ x ≤ 255):PCall Tryz.prog 8 [.rows false (UL bs) bs.length] (fun r=>r=.bool true):=by
  refine Awz l8_eq rfl ?_
  by_cases h:bs.length ≤ 1048576
  · have q:bs.length ≤ 1099511627776 ∧ ∀ x ∈ bs,0 ≤ x ∧ x ≤ 255:=⟨by omega,hb⟩
    (repeat' (first
 | (first|refine Ahz ?_|refine Abz ?_)
 | ((first|refine Aiz ?_|refine Auz (mid:=l8r9a) (post:=l8r9b) mixed (by decide) ?_|refine Adz ?_|refine Aoz ?_);simp (disch:=omega) only [push_cast,seval,l8r0,l8r1,l8r2,l8r3,l8r4,l8r5,l8r6,l8r7,l8r8,l8r9a,l8r9b,l8r9,Aaz,bne_self_eq_false,decide_true])
 | ((first|refine Amz (fun h=>?_) (fun h=>?_))<;>(try simp only [h])<;>(try simp only [bitvec_to_nat] at h)<;>(try simp only [h])<;>(first|(exfalso;omega)|(exfalso;simp_all;done)|(simp (disch:=omega) only [push_cast,seval,Aaz,bne_self_eq_false,decide_true])|skip))
 | ((first|((with_reducible refine Alz (f:=35) true ?_);simp (disch:=omega) only [push_cast,seval,Aaz,bne_self_eq_false,decide_true];(refine Akz (Ajz (drawEP_ok _ _ ?_ ?_)) ?_;(iterate 2 (exact sd));rintro _ _ ⟨⟨cs,es,id,d,f,t,w,hf,ht,⟨hs1,hs2,hs3,hs4,hs5⟩,⟨hk1,hq1⟩,rfl⟩,rfl⟩)))<;>(try simp (disch:=omega) only [push_cast,seval,Aaz,bne_self_eq_false,decide_true]))
 | ((first|refine Alz false ?_);simp (disch:=omega) only [push_cast,seval,Aaz,bne_self_eq_false,decide_true])
 | ((first|((first|refine Akz (Ajz (iEPP2_ok _ _ _ _ _ _ _ _ _ _ _ ?_ ?_ ?_)) ?_|refine Agz (Ajz (iEPP2_ok _ _ _ _ _ _ _ _ _ _ _ ?_ ?_ ?_)) ⟨_,_,rfl,rfl⟩ ?_);(iterate 3 (exact sd));rintro _ _ ⟨rfl,rfl⟩)|((first|refine Akz (Ajz (sEPP2_ok _ _ _ _ _ _ _ _ _ _ _ ?_ ?_ ?_)) ?_|refine Agz (Ajz (sEPP2_ok _ _ _ _ _ _ _ _ _ _ _ ?_ ?_ ?_)) ⟨_,_,rfl,rfl⟩ ?_);(iterate 3 (exact sd));rintro _ _ ⟨rfl,rfl⟩)|((first|refine Akz (Ajz (eqBufS_ok _ _ _ _ _ _ ?_ ?_ ?_ ?_ ?_)) ?_|refine Agz (Ajz (eqBufS_ok _ _ _ _ _ _ ?_ ?_ ?_ ?_ ?_)) ⟨_,_,rfl,rfl⟩ ?_);(iterate 5 (exact sd));rintro _ _ ⟨rfl,rfl⟩))<;>(try simp (disch:=omega) only [push_cast,seval,Aaz,bne_self_eq_false,decide_true]))))
    · (refine Aez ⟨.inr rfl,_,rfl,?_⟩;try simp (disch:=omega) only [push_cast,seval,beq_self_eq_true])
      all_goals (try simp)
    · have hv2:=vB_ep h
      obtain ⟨q,p,b,xx,y,⟨vb,vx,vy⟩,rfl,hq,he,he2,hlen,hco,hki⟩:=ep_facts h
      have hel:=fun c=>A1z c (epE es (q:Int) d f t w hf ht)
      rw [hlen] at hel
      have hil:q * 5 + 5 ≤ (es.length + 1) * 5:=by omega
      have hil2:es.length * 5 + 5 ≤ (es.length + 1) * 5:=by omega
      have h3:=EL_take3c true he
      have h4:=EL_take3c true he2
      rw [h] at hq1
      simp only [C7z,hlen] at hq1 hco ⊢
      have hxy:=Dmz hq1.2.2 he
      have hxy2:=Dmz hq1.2.2 he2
      have hkl:=kidsA_len cs (epE es (q:Int) d f t w hf ht) (q:Int)
      rw [hlen] at hkl
      have hkd:decide ((es.length:Int) ∈ kidsA cs (epE es (q:Int) d f t w hf ht) (q:Int))=true:=decide_eq_true hki
      generalize hE:epE es (q:Int) d f t w hf ht=E at *
      have q4:(xx.length ≤ 1099511627776 ∧ y.length ≤ 1099511627776) ∧ vx.length ≤ 1099511627776 ∧ vy.length ≤ 1099511627776:=⟨hxy,hxy2⟩
      have q5:(-1:Int) ≤ q ∧ (q:Int) < E.length:=by omega
      simp (disch:=omega) only [push_cast,seval,Aaz,hel,hil,hil2,h3,h4,hlen,Int.toNat_natCast]
      (repeat' (first
 | (first|refine Ahz ?_|refine Abz ?_)
 | ((first|refine Alz false ?_|refine A0z false ?_);simp (disch:=omega) only [push_cast,seval,Aaz,hel,hil,hil2,h3,h4,hco,hkd,hlen,hv2,decide_true])
 | ((first|((first|refine Akz (Ajz (iCo_ok _ _ _ _ _ _ _ _ _ _ ?_ ?_ ?_ ?_ ?_)) ?_|refine Agz (Ajz (iCo_ok _ _ _ _ _ _ _ _ _ _ ?_ ?_ ?_ ?_ ?_)) ⟨_,_,rfl,rfl⟩ ?_);(iterate 5 (exact sd));rintro _ _ ⟨rfl,rfl⟩)|((first|refine Akz (Ajz (iKidsP_ok _ _ _ _ _ ?_ ?_ ?_)) ?_|refine Agz (Ajz (iKidsP_ok _ _ _ _ _ ?_ ?_ ?_)) ⟨_,_,rfl,rfl⟩ ?_);(iterate 3 (exact sd));rintro _ _ ⟨rfl,rfl⟩)|((first|refine Akz (Ajz (isInL_ok _ _ _ ?_ ?_)) ?_|refine Agz (Ajz (isInL_ok _ _ _ ?_ ?_)) ⟨_,_,rfl,rfl⟩ ?_);(iterate 2 (exact sd));rintro _ _ ⟨rfl,rfl⟩)|((first|refine Akz (Ajz (Cqz _ _ _ _ ?_ ?_ ?_)) ?_|refine Agz (Ajz (Cqz _ _ _ _ ?_ ?_ ?_)) ⟨_,_,rfl,rfl⟩ ?_);(iterate 3 (exact sd));rintro _ _ ⟨rfl,rfl⟩))<;>(try simp (disch:=omega) only [push_cast,seval,Aaz,hel,hil,hil2,h3,h4,hco,hkd,hlen,hv2,decide_true]))))
      all_goals ((refine Aez ⟨.inr rfl,_,rfl,?_⟩;try simp (disch:=omega) only [push_cast,seval]))
      all_goals (try rfl)
    all_goals ((refine Aez ⟨.inr rfl,_,rfl,?_⟩;try simp (disch:=omega) only [push_cast,seval,beq_self_eq_true]))
    all_goals (try simp)
  · (repeat' (first
 | (first|refine Ahz ?_|refine Abz ?_)
 | ((first|refine Aiz ?_|refine Adz ?_);simp (disch:=omega) only [push_cast,seval,l8r0,l8r1,l8r2,l8r3,l8r4,l8r5,l8r6,l8r7,l8r8,l8r9a,l8r9b,l8r9,Aaz])
 | ((first|refine Amz (fun h=>?_) (fun h=>?_))<;>(try simp only [h])<;>(try simp only [bitvec_to_nat] at h)<;>(try simp only [h])<;>(first|(exfalso;omega)|(exfalso;simp_all;done)|(simp (disch:=omega) only [push_cast,seval,Aaz])|skip))
 | (refine Aez ⟨.inr rfl,_,rfl,?_⟩;(try simp (disch:=omega) only [push_cast,seval,Aaz]))))

end Go.Proofs.YtkpcjppnjmhanaaGreatDoor
namespace Go.Proofs.YtkpcjppnjmhanaaGreatDoor
open VwM Vw Go
variable [SentA]

end Go.Proofs.YtkpcjppnjmhanaaGreatDoor
namespace Go.Proofs.YtkpcjppnjmhanaaGreatDoor
open VwM Vw Go
variable [SentA]

end Go.Proofs.YtkpcjppnjmhanaaGreatDoor
namespace Go.Proofs.YtkpcjppnjmhanaaGreatDoor
open VwM Vw Go
variable [SentA]

end Go.Proofs.YtkpcjppnjmhanaaGreatDoor
namespace Go.Proofs.YtkpcjppnjmhanaaGreatDoor
open VwM Vw Go
variable [SentA]

end Go.Proofs.YtkpcjppnjmhanaaGreatDoor
