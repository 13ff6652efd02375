/- Texts of this verifier. -/
import Derived.Test.YtkpcjppnjmhanaaGreatDoorCB10
import Derived.Test.YtkpcjppnjmhanaaGreatDoorCM1
import Derived.Test.YtkpcjppnjmhanaaGreatDoorCW3
set_option maxHeartbeats 4000000
set_option linter.unusedSimpArgs false
set_option linter.unusedSectionVars false
set_option linter.unusedVariables false
set_option maxRecDepth 4000
namespace Go.Proofs.YtkpcjppnjmhanaaGreatDoor
open VwM Vw Go
variable [SentA]

end Go.Proofs.YtkpcjppnjmhanaaGreatDoor
namespace Go.Proofs.YtkpcjppnjmhanaaGreatDoor
open VwM Vw Go
variable [SentA]

end Go.Proofs.YtkpcjppnjmhanaaGreatDoor
namespace Go.Proofs.YtkpcjppnjmhanaaGreatDoor
open VwM Vw Go
variable [SentA]

theorem OBs_plain {P:Program} {f:Nat} {args:List AV} {ok:Bool} {cs:List Int} {es:List Ex} (h:BCall P f args [] (OBs ok cs es)):PCall P f args (fun r=>r=.tup [.agg [.rows true (IL cs) cs.length,.rows true (EL true es) es.length],.bool ok]):=by
  refine (BCall.plain h).mono ?_
  rintro r ⟨r0,H',⟨rfl,rfl⟩,rfl⟩
  simp [AV.ren,nthH,Iuz,A1z]
theorem iOpenP_ok (cs:List Int) (es:List Ex) (m n:Nat) (hm:cs.length=m) (hn:es.length=n) (hb:m ≤ 1099511627776 ∧ n ≤ 1099511627776 ∧ exB 1099511627776 es) :
    PCall Tryz.prog 14 [.agg [.rows false (IL cs) m,.rows false (EL false es) n]] (fun r=>r=.rows true (IL (opensA cs es)) (opensA cs es).length):=by
  refine (BCall.plain (iOpen_ok cs es m n hm hn hb)).mono ?_
  rintro r ⟨r0,H',⟨rfl,rfl⟩,rfl⟩
  simp [AV.ren,nthH,List.map_map,Function.comp_def]


theorem eqVwS_ok (b:Int) (s t:List Int) (n m n' m':Nat) (h1:s.length=n) (h2:t.length=m) (h3:s.length=n') (h4:t.length=m') (hb:s.length ≤ 1099511627776 ∧ t.length ≤ 1099511627776):PCall Tryz.prog 51 [.agg [.int .i64 b,.rows false (IL s) n,.rows false (IL t) m],.agg [.int .i64 b,.rows false (IL s) n',.rows false (IL t) m']] (fun r=>r=.bool true):=by
  subst h1 h2 h3 h4
  obtain ⟨q1,q2⟩:=hb
  refine Awz l51_eq rfl ?_
  (repeat' (first
 | (first|refine Ahz ?_|refine Abz ?_)
 | ((first|refine Aiz ?_);simp (disch:=omega) only [push_cast,seval,l51r0,l51r1,decide_true])
 | ((first|refine Amz false ?_);simp (disch:=omega) only [push_cast,seval,decide_true])
 | ((first|((first|refine Akz (Ajz (Cxz _ _ _ _ ?_ ?_ ?_)) ?_|refine Agz (Ajz (Cxz _ _ _ _ ?_ ?_ ?_)) ⟨_,_,rfl,rfl⟩ ?_);(iterate 3 (exact sd));rintro _ _ ⟨rfl,rfl⟩))<;>(try simp (disch:=omega) only [push_cast,seval,decide_true]))
 | (refine Aez ⟨.inr rfl,_,rfl,?_⟩;(try simp (disch:=omega) only [push_cast,seval,decide_true]))))


set_option maxHeartbeats 8000000 in
theorem eqBufS_ok (cs:List Int) (es:List Ex) (n m n' m':Nat) (hn:cs.length=n) (hm:es.length=m) (hn':cs.length=n') (hm':es.length=m') (hb:cs.length ≤ 1099511627776 ∧ es.length ≤ 1099511627776 ∧ exB 1099511627776 es):PCall Tryz.prog 12 [.agg [.rows false (IL cs) n,.rows false (EL false es) m],.agg [.rows false (IL cs) n',.rows false (EL false es) m']] (fun r=>r=.bool true):=by
  subst hn hm hn' hm'
  refine Awz l12_eq rfl ?_
  obtain ⟨hb1,hb2,hb3⟩:=hb
  have hel:=A1z false es
  (repeat' (first
 | (first|refine Ahz ?_|refine Abz ?_)
 | ((first|refine Aiz ?_|refine Afz ?_|refine Apz ?_);simp (disch:=omega) only [push_cast,seval,l12r0,l12r1,l12r2,l12r3,l12r4,l12r5,l12r6,l12r7,l12r8,l12r9,l12r10,Aaz,hel,decide_true])
 | ((first|refine Amz false ?_);simp (disch:=omega) only [push_cast,seval,Aaz,hel,decide_true])
 | ((first|((first|refine Akz (Ajz (Cxz _ _ _ _ ?_ ?_ ?_)) ?_|refine Agz (Ajz (Cxz _ _ _ _ ?_ ?_ ?_)) ⟨_,_,rfl,rfl⟩ ?_);(iterate 3 (exact sd));rintro _ _ ⟨rfl,rfl⟩))<;>(try simp (disch:=omega) only [push_cast,seval,Aaz,hel,decide_true]))))
  refine Djz (fun i:Nat=>mkS [(2,.ref 32 2 0),(3,.ref 48 2 0),(5,.int .i64 i)] [(32,[.rows false (IL cs) cs.length,.rows false (EL false es) es.length]),(48,[.rows false (IL cs) cs.length,.rows false (EL false es) es.length])]) (fun i=>i ≤ es.length) (fun i=>es.length - i) 0 (Nat.zero_le _) ?_ ?_
  · refine SubW.of ?_
    (refine Sub.of_lists ?_ ?_ ?_ ?_ ?_<;>simp [Vw.mkS,Vw.lk,Vw.hk,AV.inn,innL,Aoz,Alz,Arz,-List.map_set,-List.getD_eq_getElem?_getD,Aaz])
  · intro i hi
    by_cases hlt:i < es.length
    · obtain ⟨pp,b,x,y,o,he⟩:=C3z hlt
      obtain ⟨hx,hy⟩:=D9z hb3 he
      have hil:i * 5 + 5 ≤ es.length * 5:=by omega
      have hd:=B9z false es i he
      simp only at hd
      have hxy:=And.intro hx hy
      (repeat' (first
 | (first|refine Ahz ?_|refine Abz ?_)
 | ((first|refine Aiz ?_|refine Afz ?_|refine Apz ?_);simp (disch:=omega) only [push_cast,seval,l12r0,l12r1,l12r2,l12r3,l12r4,l12r5,l12r6,l12r7,l12r8,l12r9,l12r10,Aaz,hel,hil,hd,decide_true,bne_self_eq_false])
 | ((first|refine Anz (fun h=>?_) (fun h=>?_))<;>(try simp only [h])<;>(try simp only [bitvec_to_nat] at h)<;>(try simp only [h])<;>(first|(exfalso;omega)|(exfalso;simp_all;done)|(simp (disch:=omega) only [push_cast,seval,Aaz,hel,hil,hd,decide_true,bne_self_eq_false])|skip))
 | ((first|refine Amz false ?_);simp (disch:=omega) only [push_cast,seval,Aaz,hel,hil,hd,decide_true,bne_self_eq_false])
 | ((first|((first|refine Akz (Ajz (eqVwS_ok _ _ _ _ _ _ _ ?_ ?_ ?_ ?_ ?_)) ?_|refine Agz (Ajz (eqVwS_ok _ _ _ _ _ _ _ ?_ ?_ ?_ ?_ ?_)) ⟨_,_,rfl,rfl⟩ ?_);(iterate 5 (exact sd));rintro _ _ ⟨rfl,rfl⟩))<;>(try simp (disch:=omega) only [push_cast,seval,Aaz,hel,hil,hd,decide_true,bne_self_eq_false]))))
      refine ⟨i + 1,by omega,by omega,SubW.of ?_⟩
      (refine Sub.of_lists ?_ ?_ ?_ ?_ ?_<;>simp [Vw.mkS,Vw.lk,Vw.hk,AV.inn,innL,Aoz,Alz,Arz,-List.map_set,-List.getD_eq_getElem?_getD,Aaz])
    · have e:i=es.length:=by omega
      subst e
      (repeat' (first
 | (first|refine Ahz ?_|refine Abz ?_)
 | ((first|refine Aiz ?_|refine Afz ?_|refine Ayz ?_);simp (disch:=omega) only [push_cast,seval,l12r0,l12r1,l12r2,l12r3,l12r4,l12r5,l12r6,l12r7,l12r8,l12r9,l12r10,Aaz,hel,decide_true])
 | ((first|refine Anz (fun h=>?_) (fun h=>?_))<;>(try simp only [h])<;>(try simp only [bitvec_to_nat] at h)<;>(try simp only [h])<;>(first|(exfalso;omega)|(exfalso;simp_all;done)|(simp (disch:=omega) only [push_cast,seval,Aaz,hel,decide_true])|skip))))
      all_goals ((refine Aez ⟨.inr rfl,_,rfl,?_⟩;try simp (disch:=omega) only [push_cast,seval]))
      all_goals (try rfl)

end Go.Proofs.YtkpcjppnjmhanaaGreatDoor
namespace Go.Proofs.YtkpcjppnjmhanaaGreatDoor
open VwM Vw Go
variable [SentA]

/-- How many are kids of the buffer itself or of one of the first i. -/
def kS (es:List Ex) (k:Nat):Nat → Nat
  | 0=>(kidsT es (-1) k).length
  | i + 1=>kS es k i + (kidsT es (i:Int) k).length
end Go.Proofs.YtkpcjppnjmhanaaGreatDoor
namespace Go.Proofs.YtkpcjppnjmhanaaGreatDoor
open VwM Vw Go
variable [SentA]

end Go.Proofs.YtkpcjppnjmhanaaGreatDoor
namespace Go.Proofs.YtkpcjppnjmhanaaGreatDoor
open VwM Vw Go
variable [SentA]

theorem opA_of {es:List Ex} {q:Nat} {p b:Int} {x y:List Int} (h:q < es.length) (he:es[q]?=some (p,(b,x,y),true)):opA es q=true ∧ vwA es q=(b,x,y):=by
  constructor
  · unfold opA
    simp only [Int.toNat_natCast,he,Bool.and_true,Bool.and_eq_true,decide_eq_true_eq]
    omega
  · simp [vwA,List.getD,he]
theorem loadA_at {cs:List Int} {es:List Ex} {q:Nat} {p b:Int} {x y:List Int} (hv:vB cs es=true) (h:q < es.length) (he:es[q]?=some (p,(b,x,y),true)):loadA cs es q=takesL cs (offs b x y):=by
  obtain ⟨h1,h2⟩:=opA_of h he
  unfold loadA
  rw [hv,h1,h2];rfl


theorem iLEP_ok (cs:List Int) (es:List Ex) (m n:Nat) (id:Int) (hm:cs.length=m) (hn:es.length=n) (hb:m ≤ 1099511627776 ∧ n ≤ 1099511627776 ∧ exB 1099511627776 es) :
    PCall Tryz.prog 16 [.agg [.rows false (IL cs) m,.rows false (EL false es) n],.int .i64 id] (fun r=>r=.rows true (IL (loadA cs es id)) (loadA cs es id).length):=by
  refine (BCall.plain (iLE_ok cs es m n id hm hn hb)).mono ?_
  rintro r ⟨r0,H',⟨rfl,rfl⟩,rfl⟩
  simp [AV.ren,nthH,List.map_map,Function.comp_def]


theorem Klz (mem:List Int) (b:Int) (sh st:List Int) (q n m:Nat) (hq:mem.length=q) (hn:sh.length=n) (hm:st.length=m) (hb:seeB mem b sh st=true ∧ q ≤ 1099511627776 ∧ n ≤ 1099511627776 ∧ m ≤ 1099511627776):PCall Tryz.prog 20 [.rows false (IL mem) q,.agg [.int .i64 b,.rows false (IL sh) n,.rows false (IL st) m]] (fun r=>r=.rows true (IL (takesL mem (offs b sh st))) (takesL mem (offs b sh st)).length):=by
  refine (BCall.plain (iLoadX_ok mem b sh st q n m hq hn hm hb)).mono ?_
  rintro r ⟨r0,H',⟨rfl,rfl⟩,rfl⟩
  simp [AV.ren,nthH,List.map_map,Function.comp_def]

end Go.Proofs.YtkpcjppnjmhanaaGreatDoor
namespace Go.Proofs.YtkpcjppnjmhanaaGreatDoor
open VwM Vw Go
variable [SentA]

end Go.Proofs.YtkpcjppnjmhanaaGreatDoor
namespace Go.Proofs.YtkpcjppnjmhanaaGreatDoor
open VwM Vw Go
variable [SentA]

end Go.Proofs.YtkpcjppnjmhanaaGreatDoor
namespace Go.Proofs.YtkpcjppnjmhanaaGreatDoor
open VwM Vw Go
variable [SentA]

end Go.Proofs.YtkpcjppnjmhanaaGreatDoor
namespace Go.Proofs.YtkpcjppnjmhanaaGreatDoor
open VwM Vw Go
variable [SentA]

theorem someSlice_ok (bs:List Int) (p:Int) (hb:okB bs) (hp:0 ≤ p ∧ p ≤ 900000):BCall Tryz.prog 75 [.ref 0 2 0] [RD bs p] (fun r H'=>∃ f t w hf ht q,(-1000 ≤ f ∧ f ≤ 1000 ∧ -1000 ≤ t ∧ t ≤ 1000 ∧ -1000 ≤ w ∧ w ≤ 1000) ∧ (p ≤ q ∧ q ≤ p + 20) ∧ r=slc f t w hf ht ∧ H'=[RD bs q]):=by
  refine Atz (pins:=[0]) (pin:=1) l75_eq rfl rfl rfl ?_
  (repeat' (first
 | (first
 | (refine awp_join (c1:=.seq (.reg l75r2) _) (fun x:Int × Int × Int × Int × Bool=>mkS [(0,.ref 0 2 0),(2,.ref 32 5 0),(3,.ref 48 5 0)] [(0,RD bs x.2.2.2.1),(32,[.int .i64 0,.int .i64 0,.int .i64 0,.bool false,.bool false]),(48,[.int .i64 x.1,.int .i64 x.2.1,.int .i64 x.2.2.1,.bool x.2.2.2.2,.bool false])]) (fun x=>(-1000 ≤ x.1 ∧ x.1 ≤ 1000 ∧ -1000 ≤ x.2.1 ∧ x.2.1 ≤ 1000 ∧ -1000 ≤ x.2.2.1 ∧ x.2.2.1 ≤ 1000) ∧ p ≤ x.2.2.2.1 ∧ x.2.2.2.1 ≤ p + 5) ?_ ?_;rotate_left;rintro ⟨a,b,c,q,h⟩ ⟨ha,hq⟩;simp only at ha hq ⊢;rotate_right)
 | (refine awp_join (c1:=.seq (.reg l75r5) _) (fun x:Int × Int × Int × Int × Bool × Bool=>mkS [(0,.ref 0 2 0),(2,.ref 32 5 0),(3,.ref 48 5 0)] [(0,RD bs x.2.2.2.1),(32,[.int .i64 0,.int .i64 0,.int .i64 0,.bool false,.bool false]),(48,[.int .i64 x.1,.int .i64 x.2.1,.int .i64 x.2.2.1,.bool x.2.2.2.2.1,.bool x.2.2.2.2.2])]) (fun x=>(-1000 ≤ x.1 ∧ x.1 ≤ 1000 ∧ -1000 ≤ x.2.1 ∧ x.2.1 ≤ 1000 ∧ -1000 ≤ x.2.2.1 ∧ x.2.2.1 ≤ 1000) ∧ p ≤ x.2.2.2.1 ∧ x.2.2.2.1 ≤ p + 10) ?_ ?_;rotate_left;rintro ⟨a,b,c,q,h,h'⟩ ⟨ha,hq⟩;simp only at ha hq ⊢;rotate_right))
 | (first|refine Ahz ?_|refine Abz ?_)
 | ((first|refine Aiz ?_|refine Afz ?_|refine Apz ?_);simp (disch:=omega) only [push_cast,seval,l75r0,l75r1,l75r2,l75r3,l75r4,l75r5,l75r6,l75r7,l75r8,l75r9,l75r10,l75r11,l75r12,l75r13,l75r14,l75r15])
 | ((first|refine Anz (fun h=>?_) (fun h=>?_))<;>(try simp only [h])<;>(try simp only [bitvec_to_nat] at h)<;>(try simp only [h])<;>(first|(exfalso;omega)|(exfalso;simp_all;done)|(simp (disch:=omega) only [push_cast,seval])|skip))
 | ((first|((with_reducible refine A0z (f:=57) (args:=[Operand.tmp 4,Operand.tmp 5]) [0,80] true ?_);simp (disch:=omega) only [push_cast,seval];(refine Crz (id:=0) (id':=80) (by decide) (Dgz _ _ _ _ ?_ ?_ ?_ ?_ ?_) (by (simp (disch:=omega) only [push_cast,seval])<;>rfl) (by (simp (disch:=omega) only [push_cast,seval])<;>rfl) ?_;(iterate 5 (exact sd));rintro _ _ ⟨x,hx,hx0,rfl,rfl⟩))|((with_reducible refine A0z (f:=57) (args:=[Operand.tmp 12,Operand.tmp 15]) [0,240] true ?_);simp (disch:=omega) only [push_cast,seval];(refine Crz (id:=0) (id':=240) (by decide) (Dgz _ _ _ _ ?_ ?_ ?_ ?_ ?_) (by (simp (disch:=omega) only [push_cast,seval])<;>rfl) (by (simp (disch:=omega) only [push_cast,seval])<;>rfl) ?_;(iterate 5 (exact sd));rintro _ _ ⟨x,hx,hx0,rfl,rfl⟩))|((with_reducible refine A0z (f:=57) (args:=[Operand.tmp 22,Operand.tmp 25]) [0,400] true ?_);simp (disch:=omega) only [push_cast,seval];(refine Crz (id:=0) (id':=400) (by decide) (Dgz _ _ _ _ ?_ ?_ ?_ ?_ ?_) (by (simp (disch:=omega) only [push_cast,seval])<;>rfl) (by (simp (disch:=omega) only [push_cast,seval])<;>rfl) ?_;(iterate 5 (exact sd));rintro _ _ ⟨x,hx,hx0,rfl,rfl⟩))|((with_reducible refine A0z (f:=57) (args:=[Operand.tmp 32,Operand.tmp 33]) [0,528] true ?_);simp (disch:=omega) only [push_cast,seval];(refine Crz (id:=0) (id':=528) (by decide) (Dgz _ _ _ _ ?_ ?_ ?_ ?_ ?_) (by (simp (disch:=omega) only [push_cast,seval])<;>rfl) (by (simp (disch:=omega) only [push_cast,seval])<;>rfl) ?_;(iterate 5 (exact sd));rintro _ _ ⟨x,hx,hx0,rfl,rfl⟩))|((with_reducible refine A0z (f:=57) (args:=[Operand.tmp 41,Operand.tmp 42]) [0,672] true ?_);simp (disch:=omega) only [push_cast,seval];(refine Crz (id:=0) (id':=672) (by decide) (Dgz _ _ _ _ ?_ ?_ ?_ ?_ ?_) (by (simp (disch:=omega) only [push_cast,seval])<;>rfl) (by (simp (disch:=omega) only [push_cast,seval])<;>rfl) ?_;(iterate 5 (exact sd));rintro _ _ ⟨x,hx,hx0,rfl,rfl⟩))|((with_reducible refine A0z (f:=65) [0] true ?_);simp (disch:=omega) only [push_cast,seval];(refine Ehz (id:=0) (Enz _ _ _ ?_ ?_) (by (simp (disch:=omega) only [push_cast,seval])<;>rfl) ?_;(iterate 2 (exact sd));rintro _ _ ⟨x,hx0,hx1,rfl,rfl⟩)))<;>(try simp (disch:=omega) only [push_cast,seval]))
 | (refine Aez ⟨.inr rfl,[],[],_,by decide,rfl,?_⟩;(try simp (disch:=omega) only [push_cast,seval,↓Adz,↓Acz,↓List.map_cons,↓List.map_nil]))))
  all_goals first
    | exact ⟨_,_,_,_,_,_,by omega,by omega,rfl,rfl⟩
    | (refine exSub5 (Sub.of_eqs rfl rfl ?_ ?_ ?_) ?_;(focus (simp [Vw.mkS,Vw.lk,Vw.hk,AV.inn,innL,Aoz,Alz,Arz,-List.map_set,-List.getD_eq_getElem?_getD];done));(focus (simp [AV.inn,innL,Vw.hk];done));(focus (simp [AV.inn,innL,Aoz,Alz,Arz,Vw.hk];done));(try simp only);(first|omega|(refine ⟨?_,?_⟩<;>first|assumption|omega)|(refine ⟨?_,?_,?_⟩<;>first|assumption|omega)|(refine ⟨?_,?_,?_,?_⟩<;>first|assumption|omega)))
    | (refine exSub6 (Sub.of_eqs rfl rfl ?_ ?_ ?_) ?_;(focus (simp [Vw.mkS,Vw.lk,Vw.hk,AV.inn,innL,Aoz,Alz,Arz,-List.map_set,-List.getD_eq_getElem?_getD];done));(focus (simp [AV.inn,innL,Vw.hk];done));(focus (simp [AV.inn,innL,Aoz,Alz,Arz,Vw.hk];done));(try simp only);(first|omega|(refine ⟨?_,?_⟩<;>first|assumption|omega)|(refine ⟨?_,?_,?_⟩<;>first|assumption|omega)|(refine ⟨?_,?_,?_,?_⟩<;>first|assumption|omega)))

end Go.Proofs.YtkpcjppnjmhanaaGreatDoor
namespace Go.Proofs.YtkpcjppnjmhanaaGreatDoor
open VwM Vw Go
variable [SentA]

end Go.Proofs.YtkpcjppnjmhanaaGreatDoor
namespace Go.Proofs.YtkpcjppnjmhanaaGreatDoor
open VwM Vw Go
variable [SentA]

theorem goodShape_ok (bs:List Int) (p:Int) (hb:okB bs) (hp:0 ≤ p ∧ p ≤ 900000):BCall Tryz.prog 138 [.ref 0 2 0] [RD bs p] (fun r H'=>∃ xs q,(good4 xs ∧ xs.length ≤ 4) ∧ (p ≤ q ∧ q ≤ p + 10) ∧ r=.own 1 xs.length 1 ∧ H'=[RD bs q,IL xs]):=by
  refine Atz (pins:=[0]) (pin:=1) l138_eq rfl rfl rfl ?_
  (repeat' (first
 | (first|refine Ahz ?_|refine Abz ?_)
 | ((first|refine Aiz ?_);simp (disch:=omega) only [push_cast,seval,l138r0,l138r1,l138r2,l138r3,l138r4,l138r5,l138r6,l138r7,l138r8])
 | ((first|((with_reducible refine A0z (f:=57) (args:=[Operand.tmp 7,Operand.tmp 8]) [0,128] true ?_);simp (disch:=omega) only [push_cast,seval];(refine Crz (id:=0) (id':=128) (by decide) (Dgz _ _ _ _ ?_ ?_ ?_ ?_ ?_) (by (simp (disch:=omega) only [push_cast,seval])<;>rfl) (by (simp (disch:=omega) only [push_cast,seval])<;>rfl) ?_;(iterate 5 (exact sd));rintro _ _ ⟨x,hx,hx0,rfl,rfl⟩)))<;>(try simp (disch:=omega) only [push_cast,seval]))
 | (refine Aez ⟨.inr rfl,[96],[],_,by decide,rfl,?_⟩;(try simp (disch:=omega) only [push_cast,seval,↓Adz,↓Acz,↓List.map_cons,↓List.map_nil]))))
  have hn:0 ≤ x ∧ x ≤ 4:=by
    simp only [Dyz,Exz,List.mem_cons,List.not_mem_nil,or_false] at hx
    omega
  refine A6z (fun y:List Int × Int × Int=>mkS [(0,.ref 0 2 0),(3,.own 96 y.1.length 1),(4,.int .i64 y.2.1)] [(0,RD bs y.2.2),(96,IL y.1)])
    (fun y=>((∀ x ∈ y.1,0 ≤ x ∧ x ≤ 60) ∧ (y.1.length:Int) + y.2.1 ≤ 4) ∧ 0 ≤ y.2.1 ∧ p ≤ y.2.2 ∧ y.2.2 + y.2.1 ≤ p + 10) (fun y=>y.2.1.toNat) ([],x,p + 1) ⟨⟨(fun x h=>by cases h),by simp;omega⟩,by simp only;omega⟩ ?_ ?_
  · (refine Sub.of_lists ?_ ?_ ?_ ?_ ?_<;>simp [Vw.mkS,Vw.lk,Vw.hk,AV.inn,innL,Aoz,Alz,Arz,-List.map_set,-List.getD_eq_getElem?_getD])
  · rintro ⟨xs,n,q⟩ ⟨⟨hxs,hlen⟩,h0,hq1,hq2⟩
    clear hx hx0 hn
    simp only at hxs hlen h0 hq1 hq2 ⊢
    by_cases hlt:n > 0
    · have hg:good4 xs:=⟨hxs,by omega⟩
      (repeat' (first
 | (first|refine Ahz ?_|refine Abz ?_)
 | ((first|refine Aiz ?_|refine Afz ?_|refine Apz ?_);simp (disch:=omega) only [push_cast,seval,l138r0,l138r1,l138r2,l138r3,l138r4,l138r5,l138r6,l138r7,l138r8,hlt])
 | ((first|refine Anz (fun h=>?_) (fun h=>?_))<;>(try simp only [h])<;>(try simp only [bitvec_to_nat] at h)<;>(try simp only [h])<;>(first|(exfalso;omega)|(exfalso;simp_all;done)|(simp (disch:=omega) only [push_cast,seval,hlt])|skip))
 | ((first|((with_reducible refine A0z (f:=57) (args:=[Operand.tmp 14,Operand.tmp 15]) [0,240] true ?_);simp (disch:=omega) only [push_cast,seval,hlt];(refine Crz (id:=0) (id':=240) (by decide) (Dgz _ _ _ _ ?_ ?_ ?_ ?_ ?_) (by (simp (disch:=omega) only [push_cast,seval,hlt])<;>rfl) (by (simp (disch:=omega) only [push_cast,seval,hlt])<;>rfl) ?_;(iterate 5 (exact sd));rintro _ _ ⟨x,hx,hx0,rfl,rfl⟩)))<;>(try simp (disch:=omega) only [push_cast,seval,hlt]))
 | ((first|refine Amz false ?_);simp (disch:=omega) only [push_cast,seval,hlt])
 | ((first|((first|refine Akz (Ajz (Bgz _ _ ?_ ?_)) ?_|refine Agz (Ajz (Bgz _ _ ?_ ?_)) ⟨_,_,rfl,rfl⟩ ?_);(iterate 2 (exact sd));rintro _ _ ⟨rfl,rfl⟩))<;>(try simp (disch:=omega) only [push_cast,seval,hlt]))
 | (refine Aez ⟨.inr rfl,[96],[],_,by decide,rfl,?_⟩;(try simp (disch:=omega) only [push_cast,seval,↓Adz,↓Acz,↓List.map_cons,↓List.map_nil,hlt]))))
      · have hx2:0 ≤ x ∧ x ≤ 5:=by
          simp only [Dyz,Exz,List.mem_cons,List.not_mem_nil,or_false] at hx
          omega
        refine ⟨(xs ++ [x],n - 1,q + 1),⟨⟨fun y hy=>?_,by simp;omega⟩,by simp only;omega⟩,by simp only;omega,?_⟩
        · simp only [List.mem_append,List.mem_singleton] at hy
          rcases hy with hy|hy
          · exact hxs y hy
          · omega
        · (refine Sub.of_lists ?_ ?_ ?_ ?_ ?_<;>simp [Vw.mkS,Vw.lk,Vw.hk,AV.inn,innL,Aoz,Alz,Arz,-List.map_set,-List.getD_eq_getElem?_getD])
      · refine ⟨(xs,n - 1,q + 1),⟨⟨hxs,by simp only;omega⟩,by simp only;omega⟩,by simp only;omega,?_⟩
        (refine Sub.of_lists ?_ ?_ ?_ ?_ ?_<;>simp [Vw.mkS,Vw.lk,Vw.hk,AV.inn,innL,Aoz,Alz,Arz,-List.map_set,-List.getD_eq_getElem?_getD])
    · (repeat' (first
 | (first|refine Ahz ?_|refine Abz ?_)
 | ((first|refine Aiz ?_|refine Afz ?_|refine Ayz ?_);simp (disch:=omega) only [push_cast,seval,l138r0,l138r1,l138r2,l138r3,l138r4,l138r5,l138r6,l138r7,l138r8,hlt])
 | (refine Aez ⟨.inr rfl,[96],[],_,by decide,rfl,?_⟩;(try simp (disch:=omega) only [push_cast,seval,↓Adz,↓Acz,↓List.map_cons,↓List.map_nil,hlt]))))
      exact ⟨xs,q,⟨⟨hxs,by omega⟩,by omega⟩,by omega,rfl,rfl⟩

end Go.Proofs.YtkpcjppnjmhanaaGreatDoor
namespace Go.Proofs.YtkpcjppnjmhanaaGreatDoor
open VwM Vw Go
variable [SentA]

def pmOk (b:Int) (sh st order:List Int):Bool :=
  vV b sh st && (decide (order.length=sh.length) && allI order 0 ((sh.length:Int) - 1) && decide order.Nodup) && vV b (permL sh order) (permL st order)


theorem Hxz (b:Int) (sh st order:List Int) (n m p:Nat) (hn:sh.length=n) (hm:st.length=m) (hp:order.length=p) (hb:(n ≤ 4 ∧ m=n ∧ p=n) ∧ ∀ x ∈ order,0 ≤ x ∧ x ≤ (n:Int) - 1) :
    BCall Tryz.prog 163 [.agg [.int .i64 b,.rows false (IL sh) n,.rows false (IL st) m],.rows false (IL order) p] [] (OV b (permL sh order) (permL st order)):=by
  subst hn hm hp
  obtain ⟨⟨hb1,hb2,hb3⟩,hbo⟩:=hb
  refine Atz (pins:=[]) (pin:=0) l163_eq rfl rfl rfl ?_
  (repeat' (first
 | (first|refine Ahz ?_|refine Abz ?_)
 | ((first|refine Aiz ?_);simp (disch:=omega) only [push_cast,seval,l163r0,l163r1,l163r2,l163r3,l163r4a,l163r4b,l163r4,l163r5a,l163r5b,l163r5,l163r6,l163r7])
 | (refine Aez ⟨.inr rfl,[16000,16016],[(16000,1),(16016,1)],_,by decide,rfl,?_⟩;(try simp (disch:=omega) only [push_cast,seval,↓Adz,↓Acz,↓List.map_cons,↓List.map_nil]))))
  refine A6z (fun k:Nat=>if k=0 then mkS [(2,.ref 32 3 0),(4,.ref 64 3 0),(5,.ref 80 3 0),(1,RI order),(6,.int .i64 0)] [(32,[.int .i64 b,RI sh,RI st]),(64,[.int .i64 0,.val (.slice none 0 0),.val (.slice none 0 0)]),(80,[.int .i64 b,.val (.slice none 0 0),.val (.slice none 0 0)])]
    else mkS [(2,.ref 32 3 0),(4,.ref 64 3 0),(5,.ref 80 3 0),(1,RI order),(6,.int .i64 k)] [(32,[.int .i64 b,RI sh,RI st]),(64,[.int .i64 0,.val (.slice none 0 0),.val (.slice none 0 0)]),(80,[.int .i64 b,.own 432 k 1,.own 640 k 1]),(432,IL (permL sh (order.take k))),(640,IL (permL st (order.take k)))])
    (fun k=>k ≤ order.length) (fun k=>order.length - k) 0 (Nat.zero_le _) ?_ ?_
  · rw [if_pos rfl]
    (refine Sub.of_lists ?_ ?_ ?_ ?_ ?_<;>simp [Vw.mkS,Vw.lk,Vw.hk,AV.inn,innL,Aoz,Alz,Arz,-List.map_set,-List.getD_eq_getElem?_getD])
  · intro k hk
    have e1:=Cvz sh (order.take k)
    have e2:=Cvz st (order.take k)
    by_cases hlt:k < order.length
    · have hx:=hbo _ (Ddz hlt)
      obtain ⟨c,hc⟩:∃ c:Nat,order.getD k 0=c:=⟨(order.getD k 0).toNat,by omega⟩
      have s1:=Kcz sh order hlt
      have s2:=Kcz st order hlt
      rw [hc,Int.toNat_natCast] at s1 s2
      rw [hc] at hx
      have hc1:c < sh.length ∧ c < st.length:=by omega
      by_cases h0:k=0
      · subst h0
        rw [if_pos rfl]
        have hc0:order.getD 0 0=c:=hc
        (repeat' (first
 | (first|refine Ahz ?_|refine Abz ?_)
 | ((first|refine Aiz ?_|refine Auz (mid:=l163r4a) (post:=l163r4b) Bcz (by decide) ?_|refine Auz (mid:=l163r5a) (post:=l163r5b) Bcz (by decide) ?_|refine Afz ?_|refine Apz ?_);simp (disch:=omega) only [push_cast,seval,l163r0,l163r1,l163r2,l163r3,l163r4a,l163r4b,l163r4,l163r5a,l163r5b,l163r5,l163r6,l163r7,hc0,Int.toNat_natCast,Int.natCast_zero])
 | ((first|refine Anz (fun h=>?_) (fun h=>?_))<;>(try simp only [h])<;>(try simp only [bitvec_to_nat] at h)<;>(try simp only [h])<;>(first|(exfalso;omega)|(exfalso;simp_all;done)|(simp (disch:=omega) only [push_cast,seval,hc0,Int.toNat_natCast,Int.natCast_zero])|skip))
 | (refine Aez ⟨.inr rfl,[],[],_,by decide,rfl,?_⟩;(try simp (disch:=omega) only [push_cast,seval,↓Adz,↓Acz,↓List.map_cons,↓List.map_nil,hc0,Int.toNat_natCast,Int.natCast_zero]))))
        refine ⟨0 + 1,by omega,by omega,?_⟩
        rw [if_neg (by omega)]
        rw [s1,s2]
        simp only [List.take_zero]
        (refine Sub.of_lists ?_ ?_ ?_ ?_ ?_<;>simp [Vw.mkS,Vw.lk,Vw.hk,AV.inn,innL,Aoz,Alz,Arz,-List.map_set,-List.getD_eq_getElem?_getD,permL])
      · rw [if_neg h0]
        have e3:(permL sh (order.take k)).length=k:=by rw [e1];simp;omega
        have e4:(permL st (order.take k)).length=k:=by rw [e2];simp;omega
        generalize hq1:permL sh (order.take k)=q1 at *
        generalize hq2:permL st (order.take k)=q2 at *
        (repeat' (first
 | (first|refine Ahz ?_|refine Abz ?_)
 | ((first|refine Aiz ?_|refine Auz (mid:=l163r4a) (post:=l163r4b) Bcz (by decide) ?_|refine Auz (mid:=l163r5a) (post:=l163r5b) Bcz (by decide) ?_|refine Afz ?_|refine Apz ?_);simp (disch:=omega) only [push_cast,seval,l163r0,l163r1,l163r2,l163r3,l163r4a,l163r4b,l163r4,l163r5a,l163r5b,l163r5,l163r6,l163r7,hc,Int.toNat_natCast,e3,e4])
 | ((first|refine Anz (fun h=>?_) (fun h=>?_))<;>(try simp only [h])<;>(try simp only [bitvec_to_nat] at h)<;>(try simp only [h])<;>(first|(exfalso;omega)|(exfalso;simp_all;done)|(simp (disch:=omega) only [push_cast,seval,hc,Int.toNat_natCast,e3,e4])|skip))
 | (refine Aez ⟨.inr rfl,[],[],_,by decide,rfl,?_⟩;(try simp (disch:=omega) only [push_cast,seval,↓Adz,↓Acz,↓List.map_cons,↓List.map_nil,hc,Int.toNat_natCast,e3,e4]))))
        refine ⟨k + 1,by omega,by omega,?_⟩
        rw [if_neg (by omega),s1,s2]
        (refine Sub.of_lists ?_ ?_ ?_ ?_ ?_<;>simp [Vw.mkS,Vw.lk,Vw.hk,AV.inn,innL,Aoz,Alz,Arz,-List.map_set,-List.getD_eq_getElem?_getD,e3,e4])
    · have hke:k=order.length:=by omega
      have ht:order.take k=order:=List.take_of_length_le (by omega)
      by_cases h0:k=0
      · subst h0
        rw [if_pos rfl]
        have hL:(order.length:Int)=0:=by omega
        clear ht e1 e2 hk hbo hlt
        (repeat' (first
 | (first|refine Ahz ?_|refine Abz ?_)
 | ((first|refine Aiz ?_|refine Afz ?_|refine Ayz ?_);simp (disch:=omega) only [push_cast,seval,l163r0,l163r1,l163r2,l163r3,l163r4a,l163r4b,l163r4,l163r5a,l163r5b,l163r5,l163r6,l163r7,hL])
 | (refine Aez ⟨.inr rfl,[16000,16016],[(16000,1),(16016,1)],_,by decide,rfl,?_⟩;(try simp (disch:=omega) only [push_cast,seval,↓Adz,↓Acz,↓List.map_cons,↓List.map_nil,hL]))))
        have ho:order=[]:=List.length_eq_zero_iff.1 hke.symm
        all_goals simp [OV,permL,ho]
      · rw [if_neg h0,ht]
        rw [ht] at e1 e2
        (repeat' (first
 | (first|refine Ahz ?_|refine Abz ?_)
 | ((first|refine Aiz ?_|refine Afz ?_|refine Ayz ?_);simp (disch:=omega) only [push_cast,seval,l163r0,l163r1,l163r2,l163r3,l163r4a,l163r4b,l163r4,l163r5a,l163r5b,l163r5,l163r6,l163r7,hke,e1,e2])
 | ((first|refine Anz (fun h=>?_) (fun h=>?_))<;>(try simp only [h])<;>(try simp only [bitvec_to_nat] at h)<;>(try simp only [h])<;>(first|(exfalso;omega)|(exfalso;simp_all;done)|(simp (disch:=omega) only [push_cast,seval,hke,e1,e2])|skip))
 | (refine Aez ⟨.inr rfl,[432,640],[],_,by decide,rfl,?_⟩;(try simp (disch:=omega) only [push_cast,seval,↓Adz,↓Acz,↓List.map_cons,↓List.map_nil,hke,e1,e2]))))
        all_goals simp [OV,e1,e2]


theorem Iqz (b:Int) (sh st order:List Int) (n m p:Nat) (hn:sh.length=n) (hm:st.length=m) (hp:order.length=p) (hb:(n ≤ 1099511627776 ∧ m ≤ 1099511627776) ∧ p ≤ 1099511627776) :
    BCall Tryz.prog 140 [.agg [.int .i64 b,.rows false (IL sh) n,.rows false (IL st) m],.rows false (IL order) p] [] (MV (pmOk b sh st order) b (permL sh order) (permL st order)):=by
  subst hn hm hp
  obtain ⟨⟨hb1,hb2⟩,hb3⟩:=hb
  refine Atz (pins:=[]) (pin:=0) l140_eq rfl rfl rfl ?_
  cases hv:vV b sh st with
  | false =>
    have e:pmOk b sh st order=false:=by simp [pmOk,hv]
    rw [e]
    (repeat' (first
 | (first|refine Ahz ?_|refine Abz ?_)
 | ((first|refine Aiz ?_|refine Afz ?_);simp (disch:=omega) only [push_cast,seval,l140r0,l140r1,l140r2,l140r3,hv])
 | ((first|refine Amz false ?_);simp (disch:=omega) only [push_cast,seval,hv])
 | ((first|((first|refine Akz (Ajz (Aqz _ _ _ _ _ ?_ ?_ ?_)) ?_|refine Agz (Ajz (Aqz _ _ _ _ _ ?_ ?_ ?_)) ⟨_,_,rfl,rfl⟩ ?_);(iterate 3 (exact sd));rintro _ _ ⟨rfl,rfl⟩))<;>(try simp (disch:=omega) only [push_cast,seval,hv]))
 | (refine Aez ⟨.inr rfl,[16000,16016],[(16000,1),(16016,1)],_,by decide,rfl,?_⟩;(try simp (disch:=omega) only [push_cast,seval,↓Adz,↓Acz,↓List.map_cons,↓List.map_nil,hv]))))
    all_goals simp [MV,MVB,MVL]
  | true =>
    obtain ⟨hok,hlen⟩:=A4z hv
    have hl4:=hok.1.1.2
    have hq0:order.length ≤ 1099511627776 ∧ sh.length ≤ 1000:=by omega
    cases ho:(decide (order.length=sh.length) && allI order 0 ((sh.length:Int) - 1) && decide order.Nodup) with
    | false =>
      have e:pmOk b sh st order=false:=by simp only [pmOk,ho,Bool.and_false,Bool.false_and]
      rw [e]
      (repeat' (first
 | (first|refine Ahz ?_|refine Abz ?_)
 | ((first|refine Aiz ?_|refine Afz ?_);simp (disch:=omega) only [push_cast,seval,l140r0,l140r1,l140r2,l140r3,hv,ho])
 | ((first|refine Amz false ?_);simp (disch:=omega) only [push_cast,seval,hv,ho])
 | ((first|((first|refine Akz (Ajz (Aqz _ _ _ _ _ ?_ ?_ ?_)) ?_|refine Agz (Ajz (Aqz _ _ _ _ _ ?_ ?_ ?_)) ⟨_,_,rfl,rfl⟩ ?_);(iterate 3 (exact sd));rintro _ _ ⟨rfl,rfl⟩)|((first|refine Akz (Ajz (C8z _ _ _ ?_ ?_)) ?_|refine Agz (Ajz (C8z _ _ _ ?_ ?_)) ⟨_,_,rfl,rfl⟩ ?_);(iterate 2 (exact sd));rintro _ _ ⟨rfl,rfl⟩))<;>(try simp (disch:=omega) only [push_cast,seval,hv,ho]))
 | (refine Aez ⟨.inr rfl,[16000,16016],[(16000,1),(16016,1)],_,by decide,rfl,?_⟩;(try simp (disch:=omega) only [push_cast,seval,↓Adz,↓Acz,↓List.map_cons,↓List.map_nil,hv,ho]))))
      all_goals simp [MV,MVB,MVL]
    | true =>
      have e:pmOk b sh st order=vV b (permL sh order) (permL st order):=by simp only [pmOk,hv,ho,Bool.true_and]
      rw [e]
      have ho2:=ho
      simp only [Bool.and_eq_true,decide_eq_true_eq,Coz] at ho2
      obtain ⟨⟨ho3,ho4⟩,-⟩:=ho2
      have hq:(sh.length ≤ 4 ∧ st.length=sh.length ∧ order.length=sh.length) ∧ ∀ x ∈ order,0 ≤ x ∧ x ≤ (sh.length:Int) - 1:=⟨by omega,ho4⟩
      have l1:=Cvz sh order
      have l2:=Cvz st order
      have hq2:(permL sh order).length ≤ 1099511627776 ∧ (permL st order).length ≤ 1099511627776:=by omega
      (repeat' (first
 | (first|refine Ahz ?_|refine Abz ?_)
 | ((first|refine Aiz ?_|refine Afz ?_|refine Apz ?_);simp (disch:=omega) only [push_cast,seval,l140r0,l140r1,l140r2,l140r3,hv,ho])
 | ((first|refine Amz false ?_);simp (disch:=omega) only [push_cast,seval,hv,ho])
 | ((first|((first|refine Akz (Ajz (Aqz _ _ _ _ _ ?_ ?_ ?_)) ?_|refine Agz (Ajz (Aqz _ _ _ _ _ ?_ ?_ ?_)) ⟨_,_,rfl,rfl⟩ ?_);(iterate 3 (exact sd));rintro _ _ ⟨rfl,rfl⟩)|((first|refine Akz (Ajz (C8z _ _ _ ?_ ?_)) ?_|refine Agz (Ajz (C8z _ _ _ ?_ ?_)) ⟨_,_,rfl,rfl⟩ ?_);(iterate 2 (exact sd));rintro _ _ ⟨rfl,rfl⟩)|((first|refine Akz (Hxz _ _ _ _ _ _ _ ?_ ?_ ?_ ?_) ?_|refine Agz (Hxz _ _ _ _ _ _ _ ?_ ?_ ?_ ?_) ⟨_,_,rfl,rfl⟩ ?_);(iterate 4 (exact sd));rintro _ _ ⟨rfl,rfl⟩)|((first|refine Akz (Dzz _ _ _ _ _ ?_ ?_ ?_) ?_|refine Agz (Dzz _ _ _ _ _ ?_ ?_ ?_) ⟨_,_,rfl,rfl⟩ ?_);(iterate 3 (exact sd));rintro _ _ ⟨rfl,rfl⟩))<;>(try simp (disch:=omega) only [push_cast,seval,hv,ho]))
 | (refine Aez ⟨.inr rfl,[336,337],[],_,by decide,rfl,?_⟩;(try simp (disch:=omega) only [push_cast,seval,↓Adz,↓Acz,↓List.map_cons,↓List.map_nil,hv,ho]))))
      all_goals exact ⟨rfl,rfl⟩

end Go.Proofs.YtkpcjppnjmhanaaGreatDoor
