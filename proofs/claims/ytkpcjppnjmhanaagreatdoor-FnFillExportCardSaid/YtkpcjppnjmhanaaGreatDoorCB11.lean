/- Texts of this verifier. -/
import Derived.Test.YtkpcjppnjmhanaaGreatDoorCB10
import Derived.Test.YtkpcjppnjmhanaaGreatDoorCM1
import Derived.Test.YtkpcjppnjmhanaaGreatDoorCW4
import Derived.Test.YtkpcjppnjmhanaaGreatDoorCW3
set_option maxHeartbeats 4000000
set_option linter.unusedSimpArgs false
set_option linter.unusedSectionVars false
set_option linter.unusedVariables false
set_option maxRecDepth 4000
namespace Go.Proofs.YtkpcjppnjmhanaaGreatDoor
open VwM Vw Go
variable [SentA]

set_option maxHeartbeats 16000000 in
theorem goodB_ok (bs:List Int) (p:Int) (hbs:okB bs) (hp:0 ≤ p ∧ p ≤ 800000) :
    BCall Tryz.prog 109 [.ref 0 2 0] [RD bs p] (fun r H'=>∃ cs es c p',vB cs es=true ∧ (cs.length ≤ 60 ∧ es.length ≤ 8 ∧ exB 4 es) ∧ (p ≤ p' ∧ p' ≤ p + 110) ∧ r=.agg [.own 1 cs.length 1,.own 2 es.length 5] ∧ H'=[RD bs p',IL cs,EL c es]):=by
  obtain ⟨hp1,hp2⟩:=hp
  refine Auz (pins:=[0]) (pin:=1) l109_eq rfl rfl rfl ?_
  (repeat' (first
 | (first|refine Agz ?_|refine Abz ?_)
 | ((first|refine Ahz ?_);simp (disch:=omega) only [push_cast,seval,l109r0,l109r1,l109r2,l109r3,l109r4a,l109r4b,l109r4,l109r5,l109r6,Aaz])
 | ((first|((with_reducible refine A6z (f:=57) (args:=[Operand.tmp 5,Operand.tmp 6]) [0,96] true ?_);simp (disch:=omega) only [push_cast,seval,Aaz];(refine E7z (id:=0) (id':=96) (by decide) (Iaz _ _ _ _ ?_ ?_ ?_ ?_ ?_) (by (simp (disch:=omega) only [push_cast,seval,Aaz])<;>rfl) (by (simp (disch:=omega) only [push_cast,seval,Aaz])<;>rfl) ?_;(iterate 5 (exact sd));rintro _ _ ⟨x,hx,hx0,rfl,rfl⟩))|((with_reducible refine A6z (f:=57) (args:=[Operand.tmp 9,Operand.tmp 10]) [0,160] true ?_);simp (disch:=omega) only [push_cast,seval,Aaz];(refine E7z (id:=0) (id':=160) (by decide) (Iaz _ _ _ _ ?_ ?_ ?_ ?_ ?_) (by (simp (disch:=omega) only [push_cast,seval,Aaz])<;>rfl) (by (simp (disch:=omega) only [push_cast,seval,Aaz])<;>rfl) ?_;(iterate 5 (exact sd));rintro _ _ ⟨x,hx,hx0,rfl,rfl⟩)))<;>(try simp (disch:=omega) only [push_cast,seval,Aaz]))
 | ((first|refine Alz false ?_);simp (disch:=omega) only [push_cast,seval,Aaz])
 | ((first|((first|refine Akz (Khz _) ?_|refine Aiz (Khz _) ⟨_,_,rfl,rfl⟩ ?_);rintro _ _ ⟨rfl,rfl⟩))<;>(try simp (disch:=omega) only [push_cast,seval,Aaz]))))
  rename_i y hy hy0
  have hN:=nbN_le y
  have hv0:vB (List.replicate (nbN y) 0) []=true:=by
    rw [Gdz]
    exact ⟨Cuz.2 ⟨by simpa using hN,fun v hv=>by rw [(List.mem_replicate.1 hv).2];omega⟩,Nat.zero_le _,fun i e he=>by simp at he⟩
  have hx8:0 ≤ x ∧ x ≤ 8:=by
    simp only [Euz,Glz,List.mem_cons,List.not_mem_nil,or_false] at hx
    omega
  refine Ckz (fun z:List Int × List Ex × Bool × Int × Int=>mkS [(0,.ref 0 2 0),(2,.ref 32 2 0),(3,.ref 48 2 0),(4,.int .i64 z.2.2.2.1)] [(0,RD bs z.2.2.2.2),(32,[.val (.slice none 0 0),.val (.slice none 0 0)]),(48,[.own 9000 z.1.length 1,.own 9001 z.2.1.length 5]),(9000,IL z.1),(9001,EL z.2.2.1 z.2.1)]) (fun z=>vB z.1 z.2.1=true ∧ (0 ≤ z.2.2.2.1 ∧ z.2.2.2.1 ≤ 8) ∧ p ≤ z.2.2.2.2 ∧ z.2.2.2.2 + 10 * z.2.2.2.1 ≤ p + 100) (fun z=>z.2.2.2.1.toNat) (List.replicate (nbN y) 0,[],true,x,p + 1 + 1) ⟨hv0,hx8,by simp only;omega,by simp only;omega⟩ ?_ ?_
  · refine SubW.mk2 128 9000 129 9001 (by omega) ?_
    simp only [List.map_cons,List.map_nil,AV.sw,swL,Laz,swp,↓reduceIte,Nat.reduceEqDiff]
    (refine Sub.of_lists ?_ ?_ ?_ ?_ ?_<;>simp [Vw.mkS,Vw.lk,Vw.hk,AV.inn,innL,Apz,Anz,Aqz,-List.map_set,-List.getD_eq_getElem?_getD,EL])
  · rintro ⟨cs,es,c,n,q⟩ ⟨hv,hn,hq1,hq2⟩
    simp only at hv hn hq1 hq2 ⊢
    have hel:=Azz c es
    by_cases hlt:n > 0
    · (repeat' (first
 | (first|refine Agz ?_|refine Abz ?_)
 | ((first|refine Ahz ?_|refine Aez ?_|refine Aoz ?_);simp (disch:=omega) only [push_cast,seval,l109r0,l109r1,l109r2,l109r3,l109r4a,l109r4b,l109r4,l109r5,l109r6,hlt,hel,Aaz])))
      refine awp_drawW (a:=l109r4a.take 4) (nth l109r4a 4) (b:=l109r4a.drop 5) (post:=l109r4b) [0,9000,9001] [48] rfl mixed (by decide) ?_
      simp (disch:=omega) only [push_cast,seval,l109r0,l109r1,l109r2,l109r3,l109r4a,l109r4b,l109r4,l109r5,l109r6,List.take_succ_cons,List.take_zero,List.drop_succ_cons,List.drop_zero,nth]
      (repeat' (first
 | (first|refine Agz ?_|refine Abz ?_)
 | ((first|refine Ahz ?_);simp (disch:=omega) only [push_cast,seval,l109r0,l109r1,l109r2,l109r3,l109r4a,l109r4b,l109r4,l109r5,l109r6,hlt,hel,Aaz])
 | ((first|((with_reducible refine Emz (f:=136) [0,9000,9001] true ?_);simp (disch:=omega) only [push_cast,seval,hlt,hel,Aaz];(refine qcallND (by decide) (someAct_ok _ _ _ _ _ _ ?_ ?_ ?_ ?_ ?_) (by (simp (disch:=omega) only [push_cast,seval,hlt,hel,Aaz])<;>rfl) (by decide) ⟨_,_,0,[0],_,.inl ⟨rfl,0,rfl⟩,⟨Int.le_refl _,by omega⟩,rfl,rfl⟩ ?_;(iterate 5 (exact sd));rintro _ _ ⟨kA,nums,pA,hkA,hpA,rfl,rfl⟩))|((with_reducible refine A6z (f:=135) [9000,9001,320] true ?_);simp (disch:=omega) only [push_cast,seval,hlt,hel,Aaz];(refine callND (by decide) (apply_ok _ _ _ _ _ _ _ ?_ ?_ ?_ ?_ ?_) (by (simp (disch:=omega) only [push_cast,seval,hlt,hel,Aaz])<;>rfl) ?_;(iterate 5 (exact sd));rintro _ _ (⟨sa,rfl,rfl⟩|⟨csA,esA,sa,hvA,rfl,rfl⟩))))<;>(try simp (disch:=omega) only [push_cast,seval,hlt,hel,Aaz]))))
      · exact ⟨(cs,es,false,n - 1,pA),⟨hv,by simp only;omega,by simp only;omega,by simp only;omega⟩,by simp only;omega,SubW.of (by (refine Sub.of_lists ?_ ?_ ?_ ?_ ?_<;>simp [Vw.mkS,Vw.lk,Vw.hk,AV.inn,innL,Apz,Anz,Aqz,-List.map_set,-List.getD_eq_getElem?_getD,Aaz]))⟩
      · refine ⟨(csA,esA,true,n - 1,pA),⟨hvA,by simp only;omega,by simp only;omega,by simp only;omega⟩,by simp only;omega,?_⟩
        refine SubW.mk2 336 9000 337 9001 (by omega) ?_
        simp only [List.map_cons,List.map_nil,AV.sw,swL,Laz,H5z,swp,↓reduceIte,Nat.reduceEqDiff]
        (refine Sub.of_lists ?_ ?_ ?_ ?_ ?_<;>simp [Vw.mkS,Vw.lk,Vw.hk,AV.inn,innL,Apz,Anz,Aqz,-List.map_set,-List.getD_eq_getElem?_getD,Aaz])
    · (repeat' (first
 | (first|refine Agz ?_|refine Abz ?_)
 | ((first|refine Ahz ?_|refine Aez ?_|refine A1z ?_);simp (disch:=omega) only [push_cast,seval,l109r0,l109r1,l109r2,l109r3,l109r4a,l109r4b,l109r4,l109r5,l109r6,hlt,hel,Aaz])
 | (refine Afz ⟨.inr rfl,[9000,9001],[],_,by decide,rfl,?_⟩;(try simp (disch:=omega) only [push_cast,seval,↓Adz,↓Acz,↓List.map_cons,↓List.map_nil,hlt,hel,Aaz]))))
      all_goals exact ⟨_,_,_,_,hv,Iuz hv,by omega,rfl,rfl⟩

end Go.Proofs.YtkpcjppnjmhanaaGreatDoor
namespace Go.Proofs.YtkpcjppnjmhanaaGreatDoor
open VwM Vw Go
variable [SentA]

theorem zcX0:zcells [AV.int .i64 0,.int .i64 0,.val (.slice none 0 0),.val (.slice none 0 0),.bool false] 1=[AV.int .i64 0,.int .i64 0,.val (.slice none 0 0),.val (.slice none 0 0),.bool false]:=zcX _ _ _ _ _
theorem Mhz (es:List Ex) (a b:Int) (o:Bool):EL false (es ++ [(a,(b,[],[]),o)])=EL false es ++ [.int .i64 a,.int .i64 b,.rows false [] 0,.rows false [] 0,.bool o]:=by rw [Hoz];rfl
abbrev sbP (cs:List Int) (es:List Ex):Prop:=cs.length ≤ 61 ∧ es.length ≤ 9 ∧ exB 4 es
theorem exB_nil1 {es:List Ex} {a b:Int} {o:Bool} (h:exB 4 es):exB 4 (es ++ [(a,(b,[],[]),o)]):=fun e he=>by
  rcases List.mem_append.1 he with h1|h1
  · exact h e h1
  · rw [List.mem_singleton] at h1;subst h1;exact ⟨Nat.zero_le _,Nat.zero_le _⟩


set_option maxHeartbeats 16000000 in
theorem someB_ok (bs:List Int) (p:Int) (hbs:okB bs) (hp:0 ≤ p ∧ p ≤ 700000) :
    BCall Tryz.prog 68 [.ref 0 2 0] [RD bs p] (fun r H'=>∃ cs es p',sbP cs es ∧ (p ≤ p' ∧ p' ≤ p + 120) ∧ r=.agg [.own 1 cs.length 1,.own 2 es.length 5] ∧ H'=[RD bs p',IL cs,EL false es]):=by
  obtain ⟨hp1,hp2⟩:=hp
  refine Auz (pins:=[0]) (pin:=1) l68_eq rfl rfl rfl ?_
  have helc:=fun (c:Bool) (es:List Ex)=>Azz c es
  (repeat' (first
 | (first|refine Agz ?_|refine Abz ?_)
 | ((first|refine Ahz ?_|refine Bsz (mid:=l68r6a) (post:=l68r6b) [0] mixed (by decide) ?_|refine Aez ?_|refine Aoz ?_);simp (disch:=omega) only [push_cast,seval,l68r0,l68r1,l68r2,l68r3,l68r4,l68r5,l68r6a,l68r6b,l68r6,l68r7,l68r8,l68r9,Aaz,zcX0])
 | ((first|refine Amz (fun h=>?_) (fun h=>?_))<;>(try simp only [h])<;>(try simp only [bitvec_to_nat] at h)<;>(try simp only [h])<;>(first|(exfalso;omega)|(exfalso;simp_all;done)|(simp (disch:=omega) only [push_cast,seval,Aaz,zcX0])|skip))
 | ((first|((with_reducible refine A6z (f:=109) [0] true ?_);simp (disch:=omega) only [push_cast,seval,Aaz,zcX0];(refine E8z (id:=0) (goodB_ok _ _ ?_ ?_) (by (simp (disch:=omega) only [push_cast,seval,Aaz,zcX0])<;>rfl) ?_;(iterate 2 (exact sd));rintro _ _ ⟨csG,esG,cG,pG,hvG,⟨hb1,hb2,hb3⟩,hpG,rfl,rfl⟩))|((with_reducible refine A6z (f:=65) [0] true ?_);simp (disch:=omega) only [push_cast,seval,Aaz,zcX0];(refine E8z (id:=0) (Hvz _ _ _ ?_ ?_) (by (simp (disch:=omega) only [push_cast,seval,Aaz,zcX0])<;>rfl) ?_;(iterate 2 (exact sd));rintro _ _ ⟨x,hx0,hx1,rfl,rfl⟩))|((with_reducible refine Emz (f:=57) [0] true ?_);simp (disch:=omega) only [push_cast,seval,Aaz,zcX0];(refine I5z (id:=0) (oneR_ok _ _ _ _ ?_ ?_ ?_ ?_ ?_) (by (simp (disch:=omega) only [push_cast,seval,Aaz,zcX0])<;>rfl) (by decide) (by simp only [Euz,Glz];exact ⟨_,_,_,List.mem_cons_self,by omega,rfl,rfl⟩) ?_;(iterate 5 (exact sd));rintro _ _ ⟨x,hx,hx0,rfl,rfl⟩)))<;>(try simp (disch:=omega) only [push_cast,seval,Aaz,zcX0]))))
  all_goals refine awp_subW (SubW.toF [81] SubW.rfl') ?_
  all_goals simp only [toFL,List.map_cons,List.map_nil,List.map_append,List.contains_cons,List.contains_nil,Nat.reduceBEq,BEq.rfl,Bool.or_false,Bool.false_eq_true,↓reduceIte,toF_EL,toF]
  all_goals first
    | ((refine Afz ⟨.inr rfl,[80,81],[],_,by decide,rfl,?_⟩;(try simp (disch:=omega) only [push_cast,seval,↓Adz,↓Acz,↓List.map_cons,↓List.map_nil,Aaz]));exact ⟨csG,esG,_,⟨by omega,by omega,hb3⟩,by omega,rfl,rfl⟩)
    | ((refine Afz ⟨.inr rfl,[80,81],[],_,by decide,rfl,?_⟩;(try simp (disch:=omega) only [push_cast,seval,↓Adz,↓Acz,↓List.map_cons,↓List.map_nil,Aaz,List.map_append,List.length_append,List.length_map]));refine ⟨csG ++ [256],esG,pG + 1,⟨by rw [List.length_append,List.length_singleton];omega,by omega,hb3⟩,by omega,by rw [List.length_append,List.length_singleton],?_⟩;unfold IL;rw [List.map_append];rfl)
    | ((refine Afz ⟨.inr rfl,[80,81],[],_,by decide,rfl,?_⟩;(try simp (disch:=omega) only [push_cast,seval,↓Adz,↓Acz,↓List.map_cons,↓List.map_nil,Aaz,List.map_append,List.length_append,List.length_map]));refine ⟨csG,esG ++ [(x,(0,[],[]),true)],pG + 1 + 1,⟨by omega,by rw [List.length_append,List.length_singleton];omega,exB_nil1 hb3⟩,by omega,by rw [List.length_append,List.length_singleton],?_⟩;first|(rw [Mhz];done)|(rw [Mhz];rfl))
    | ((refine Afz ⟨.inr rfl,[80,81],[],_,by decide,rfl,?_⟩;(try simp (disch:=omega) only [push_cast,seval,↓Adz,↓Acz,↓List.map_cons,↓List.map_nil,Aaz,List.map_append,List.length_append,List.length_map]));refine ⟨csG,esG ++ [(-1,(59,[],[]),true)],pG + 1,⟨by omega,by rw [List.length_append,List.length_singleton];omega,exB_nil1 hb3⟩,by omega,by rw [List.length_append,List.length_singleton],?_⟩;first|(rw [Mhz];done)|(rw [Mhz];rfl))

end Go.Proofs.YtkpcjppnjmhanaaGreatDoor
namespace Go.Proofs.YtkpcjppnjmhanaaGreatDoor
open VwM Vw Go
variable [SentA]

abbrev sbQ (cs:List Int) (es:List Ex):Prop:=(cs.length ≤ 1099511627776 ∧ es.length ≤ 1099511627776 ∧ exB 1099511627776 es) ∧ (cs.length ≤ 1048576 ∧ es.length ≤ 1048576 ∧ exB 1048576 es) ∧ cs.length ≤ 61 ∧ es.length ≤ 9 ∧ exB 4 es
theorem sbQ_of {cs:List Int} {es:List Ex} (h:sbP cs es):sbQ cs es:=⟨⟨by have:=h.1;omega,by have:=h.2.1;omega,fun e he=>by have:=h.2.2 e he;omega⟩,⟨by have:=h.1;omega,by have:=h.2.1;omega,fun e he=>by have:=h.2.2 e he;omega⟩,h⟩


end Go.Proofs.YtkpcjppnjmhanaaGreatDoor
namespace Go.Proofs.YtkpcjppnjmhanaaGreatDoor
open VwM Vw Go
variable [SentA]

theorem D6z (xs ys:List Int) (n m:Nat) (hn:xs.length=n) (hm:ys.length=m) (hb:n ≤ 1099511627776 ∧ m ≤ 1099511627776):PCall Tryz.prog 15 [.rows false (IL xs) n,.rows false (IL ys) m] (fun r=>r=.bool (decide (xs=ys))):=by
  subst hn hm
  refine Axz l15_eq rfl ?_
  by_cases hl:xs.length=ys.length
  · have hl':(xs.length:Int)=ys.length:=by omega
    (repeat' (first
 | (first|refine Agz ?_|refine Abz ?_)
 | ((first|refine Ahz ?_|refine Aez ?_|refine Aoz ?_);simp (disch:=omega) only [push_cast,seval,l15r0,l15r1,l15r2,l15r3,l15r4,l15r5a,l15r5b,l15r5,l15r6,l15r7,l15r8,hl'])
 | (refine Afz ⟨.inr rfl,_,rfl,?_⟩;(try simp (disch:=omega) only [push_cast,seval,hl']))))
    refine A7z (fun k:Nat=>mkS [(0,RI xs),(1,RI ys),(5,.int .i64 k)] []) (fun k=>k ≤ xs.length ∧ ∀ j:Nat,j < k → xs.getD j 0=ys.getD j 0) (fun k=>xs.length - k) 0 ⟨Nat.zero_le _,fun j h=>absurd h (Nat.not_lt_zero _)⟩ ?_ ?_
    · (refine Sub.of_lists ?_ ?_ ?_ ?_ ?_<;>simp [Vw.mkS,Vw.lk,Vw.hk,AV.inn,innL,Apz,Anz,Aqz,-List.map_set,-List.getD_eq_getElem?_getD,hl])
    · rintro k ⟨hk,hj⟩
      by_cases hlt:k < xs.length
      · (repeat' (first
 | (first|refine Agz ?_|refine Abz ?_)
 | ((first|refine Ahz ?_|refine Awz (mid:=l15r5a) (post:=l15r5b) mixed (by decide) ?_|refine Aez ?_|refine Aoz ?_);simp (disch:=omega) only [push_cast,seval,l15r0,l15r1,l15r2,l15r3,l15r4,l15r5a,l15r5b,l15r5,l15r6,l15r7,l15r8])
 | ((first|refine Amz (fun h=>?_) (fun h=>?_))<;>(try simp only [h])<;>(try simp only [bitvec_to_nat] at h)<;>(try simp only [h])<;>(first|(exfalso;omega)|(exfalso;simp_all;done)|(simp (disch:=omega) only [push_cast,seval])|skip))
 | (refine Afz ⟨.inr rfl,_,rfl,?_⟩;(try simp (disch:=omega) only [push_cast,seval]))))
        · simp;rintro rfl;exact absurd rfl ‹_›
        · refine ⟨k + 1,⟨by omega,fun j h=>?_⟩,by omega,?_⟩
          · by_cases hjk:j=k
            · subst hjk;assumption
            · exact hj j (by omega)
          · (refine Sub.of_lists ?_ ?_ ?_ ?_ ?_<;>simp [Vw.mkS,Vw.lk,Vw.hk,AV.inn,innL,Apz,Anz,Aqz,-List.map_set,-List.getD_eq_getElem?_getD])
      · (repeat' (first
 | (first|refine Agz ?_|refine Abz ?_)
 | ((first|refine Ahz ?_|refine Aez ?_|refine A1z ?_);simp (disch:=omega) only [push_cast,seval,l15r0,l15r1,l15r2,l15r3,l15r4,l15r5a,l15r5b,l15r5,l15r6,l15r7,l15r8])
 | ((first|refine Amz (fun h=>?_) (fun h=>?_))<;>(try simp only [h])<;>(try simp only [bitvec_to_nat] at h)<;>(try simp only [h])<;>(first|(exfalso;omega)|(exfalso;simp_all;done)|(simp (disch:=omega) only [push_cast,seval])|skip))
 | (refine Afz ⟨.inr rfl,_,rfl,?_⟩;(try simp (disch:=omega) only [push_cast,seval]))))
        have:xs=ys:=Hzz hl fun j h=>hj j (by omega)
        simp [this]
  · have hl':¬ (xs.length:Int)=ys.length:=by omega
    have:¬ xs=ys:=by rintro rfl;exact hl rfl
    (repeat' (first
 | (first|refine Agz ?_|refine Abz ?_)
 | ((first|refine Ahz ?_|refine Aez ?_);simp (disch:=omega) only [push_cast,seval,l15r0,l15r1,l15r2,l15r3,l15r4,l15r5a,l15r5b,l15r5,l15r6,l15r7,l15r8,hl'])
 | (refine Afz ⟨.inr rfl,_,rfl,?_⟩;(try simp (disch:=omega) only [push_cast,seval,hl']))))
    simp [this]

end Go.Proofs.YtkpcjppnjmhanaaGreatDoor
namespace Go.Proofs.YtkpcjppnjmhanaaGreatDoor
open VwM Vw Go
variable [SentA]

theorem takesL_length (xs at_:List Int):(takesL xs at_).length=at_.length:=by simp [takesL]

end Go.Proofs.YtkpcjppnjmhanaaGreatDoor
namespace Go.Proofs.YtkpcjppnjmhanaaGreatDoor
open VwM Vw Go
variable [SentA]

theorem Iqz (xs:List Int) (n:Nat) (x:Int) (hn:xs.length=n) (hb:n ≤ 1099511627776):PCall Tryz.prog 13 [.rows false (IL xs) n,.int .i64 x] (fun r=>r=.bool (decide (x ∈ xs))):=by
  subst hn
  refine Axz l13_eq rfl ?_
  (repeat' (first
 | (first|refine Agz ?_|refine Abz ?_)
 | ((first|refine Ahz ?_);simp (disch:=omega) only [push_cast,seval,l13r0,l13r1,l13r2,l13r3,l13r4,l13r5,l13r6])
 | (refine Afz ⟨.inr rfl,_,rfl,?_⟩;(try simp (disch:=omega) only [push_cast,seval]))))
  refine A7z (fun k:Nat=>mkS [(0,RI xs),(1,.int .i64 x),(5,.int .i64 k)] []) (fun k=>k ≤ xs.length ∧ ∀ j:Nat,j < k → xs.getD j 0 ≠ x) (fun k=>xs.length - k) 0 ⟨Nat.zero_le _,fun j h=>absurd h (Nat.not_lt_zero _)⟩ ?_ ?_
  · (refine Sub.of_lists ?_ ?_ ?_ ?_ ?_<;>simp [Vw.mkS,Vw.lk,Vw.hk,AV.inn,innL,Apz,Anz,Aqz,-List.map_set,-List.getD_eq_getElem?_getD])
  · rintro k ⟨hk,hj⟩
    by_cases hlt:k < xs.length
    · by_cases he:xs.getD k 0=x
      · have hm:x ∈ xs:=by rw [← he];exact Cez hlt
        (repeat' (first
 | (first|refine Agz ?_|refine Abz ?_)
 | ((first|refine Ahz ?_|refine Aez ?_|refine Aoz ?_);simp (disch:=omega) only [push_cast,seval,l13r0,l13r1,l13r2,l13r3,l13r4,l13r5,l13r6,he,decide_true])
 | ((first|refine Amz (fun h=>?_) (fun h=>?_))<;>(try simp only [h])<;>(try simp only [bitvec_to_nat] at h)<;>(try simp only [h])<;>(first|(exfalso;omega)|(exfalso;simp_all;done)|(simp (disch:=omega) only [push_cast,seval,he,decide_true])|skip))
 | (refine Afz ⟨.inr rfl,_,rfl,?_⟩;(try simp (disch:=omega) only [push_cast,seval,he,decide_true]))))
        all_goals simp [hm]
      · (repeat' (first
 | (first|refine Agz ?_|refine Abz ?_)
 | ((first|refine Ahz ?_|refine Aez ?_|refine Aoz ?_);simp (disch:=omega) only [push_cast,seval,l13r0,l13r1,l13r2,l13r3,l13r4,l13r5,l13r6,he,decide_false])
 | ((first|refine Amz (fun h=>?_) (fun h=>?_))<;>(try simp only [h])<;>(try simp only [bitvec_to_nat] at h)<;>(try simp only [h])<;>(first|(exfalso;omega)|(exfalso;simp_all;done)|(simp (disch:=omega) only [push_cast,seval,he,decide_false])|skip))
 | (refine Afz ⟨.inr rfl,_,rfl,?_⟩;(try simp (disch:=omega) only [push_cast,seval,he,decide_false]))))
        refine ⟨k + 1,⟨by omega,fun j h=>?_⟩,by omega,?_⟩
        · by_cases hjk:j=k
          · subst hjk;assumption
          · exact hj j (by omega)
        · (refine Sub.of_lists ?_ ?_ ?_ ?_ ?_<;>simp [Vw.mkS,Vw.lk,Vw.hk,AV.inn,innL,Apz,Anz,Aqz,-List.map_set,-List.getD_eq_getElem?_getD])
    · have hm:x ∉ xs:=fun h=>by
        obtain ⟨j,hj2,e⟩:=mem_getD.1 h
        exact hj j (by omega) e
      (repeat' (first
 | (first|refine Agz ?_|refine Abz ?_)
 | ((first|refine Ahz ?_|refine Aez ?_|refine A1z ?_);simp (disch:=omega) only [push_cast,seval,l13r0,l13r1,l13r2,l13r3,l13r4,l13r5,l13r6])
 | ((first|refine Amz (fun h=>?_) (fun h=>?_))<;>(try simp only [h])<;>(try simp only [bitvec_to_nat] at h)<;>(try simp only [h])<;>(first|(exfalso;omega)|(exfalso;simp_all;done)|(simp (disch:=omega) only [push_cast,seval])|skip))
 | (refine Afz ⟨.inr rfl,_,rfl,?_⟩;(try simp (disch:=omega) only [push_cast,seval]))))
      all_goals simp [hm]

end Go.Proofs.YtkpcjppnjmhanaaGreatDoor
namespace Go.Proofs.YtkpcjppnjmhanaaGreatDoor
open VwM Vw Go
variable [SentA]

end Go.Proofs.YtkpcjppnjmhanaaGreatDoor
namespace Go.Proofs.YtkpcjppnjmhanaaGreatDoor
open VwM Vw Go
variable [SentA]

end Go.Proofs.YtkpcjppnjmhanaaGreatDoor
namespace Go.Proofs.YtkpcjppnjmhanaaGreatDoor
open VwM Vw Go
variable [SentA]

theorem OBs_plain {P:Program} {f:Nat} {args:List AV} {ok:Bool} {cs:List Int} {es:List Ex} (h:BCall P f args [] (OBs ok cs es)):PCall P f args (fun r=>r=.tup [.agg [.rows true (IL cs) cs.length,.rows true (EL true es) es.length],.bool ok]):=by
  refine (BCall.plain h).mono ?_
  rintro r ⟨r0,H',⟨rfl,rfl⟩,rfl⟩
  simp [AV.ren,nthH,I3z,Azz]
theorem iOpenP_ok (cs:List Int) (es:List Ex) (m n:Nat) (hm:cs.length=m) (hn:es.length=n) (hb:m ≤ 1099511627776 ∧ n ≤ 1099511627776 ∧ exB 1099511627776 es) :
    PCall Tryz.prog 14 [.agg [.rows false (IL cs) m,.rows false (EL false es) n]] (fun r=>r=.rows true (IL (opensA cs es)) (opensA cs es).length):=by
  refine (BCall.plain (iOpen_ok cs es m n hm hn hb)).mono ?_
  rintro r ⟨r0,H',⟨rfl,rfl⟩,rfl⟩
  simp [AV.ren,nthH,List.map_map,Function.comp_def]


theorem eqVwS_ok (b:Int) (s t:List Int) (n m n' m':Nat) (h1:s.length=n) (h2:t.length=m) (h3:s.length=n') (h4:t.length=m') (hb:s.length ≤ 1099511627776 ∧ t.length ≤ 1099511627776):PCall Tryz.prog 51 [.agg [.int .i64 b,.rows false (IL s) n,.rows false (IL t) m],.agg [.int .i64 b,.rows false (IL s) n',.rows false (IL t) m']] (fun r=>r=.bool true):=by
  subst h1 h2 h3 h4
  obtain ⟨q1,q2⟩:=hb
  refine Axz l51_eq rfl ?_
  (repeat' (first
 | (first|refine Agz ?_|refine Abz ?_)
 | ((first|refine Ahz ?_);simp (disch:=omega) only [push_cast,seval,l51r0,l51r1,decide_true])
 | ((first|refine Alz false ?_);simp (disch:=omega) only [push_cast,seval,decide_true])
 | ((first|((first|refine Akz (Ajz (D6z _ _ _ _ ?_ ?_ ?_)) ?_|refine Aiz (Ajz (D6z _ _ _ _ ?_ ?_ ?_)) ⟨_,_,rfl,rfl⟩ ?_);(iterate 3 (exact sd));rintro _ _ ⟨rfl,rfl⟩))<;>(try simp (disch:=omega) only [push_cast,seval,decide_true]))
 | (refine Afz ⟨.inr rfl,_,rfl,?_⟩;(try simp (disch:=omega) only [push_cast,seval,decide_true]))))


set_option maxHeartbeats 8000000 in
theorem eqBufS_ok (cs:List Int) (es:List Ex) (n m n' m':Nat) (hn:cs.length=n) (hm:es.length=m) (hn':cs.length=n') (hm':es.length=m') (hb:cs.length ≤ 1099511627776 ∧ es.length ≤ 1099511627776 ∧ exB 1099511627776 es):PCall Tryz.prog 12 [.agg [.rows false (IL cs) n,.rows false (EL false es) m],.agg [.rows false (IL cs) n',.rows false (EL false es) m']] (fun r=>r=.bool true):=by
  subst hn hm hn' hm'
  refine Axz l12_eq rfl ?_
  obtain ⟨hb1,hb2,hb3⟩:=hb
  have hel:=Azz false es
  (repeat' (first
 | (first|refine Agz ?_|refine Abz ?_)
 | ((first|refine Ahz ?_|refine Aez ?_|refine Aoz ?_);simp (disch:=omega) only [push_cast,seval,l12r0,l12r1,l12r2,l12r3,l12r4,l12r5,l12r6,l12r7,l12r8,l12r9,l12r10,Aaz,hel,decide_true])
 | ((first|refine Alz false ?_);simp (disch:=omega) only [push_cast,seval,Aaz,hel,decide_true])
 | ((first|((first|refine Akz (Ajz (D6z _ _ _ _ ?_ ?_ ?_)) ?_|refine Aiz (Ajz (D6z _ _ _ _ ?_ ?_ ?_)) ⟨_,_,rfl,rfl⟩ ?_);(iterate 3 (exact sd));rintro _ _ ⟨rfl,rfl⟩))<;>(try simp (disch:=omega) only [push_cast,seval,Aaz,hel,decide_true]))))
  refine Ckz (fun i:Nat=>mkS [(2,.ref 32 2 0),(3,.ref 48 2 0),(5,.int .i64 i)] [(32,[.rows false (IL cs) cs.length,.rows false (EL false es) es.length]),(48,[.rows false (IL cs) cs.length,.rows false (EL false es) es.length])]) (fun i=>i ≤ es.length) (fun i=>es.length - i) 0 (Nat.zero_le _) ?_ ?_
  · refine SubW.of ?_
    (refine Sub.of_lists ?_ ?_ ?_ ?_ ?_<;>simp [Vw.mkS,Vw.lk,Vw.hk,AV.inn,innL,Apz,Anz,Aqz,-List.map_set,-List.getD_eq_getElem?_getD,Aaz])
  · intro i hi
    by_cases hlt:i < es.length
    · obtain ⟨pp,b,x,y,o,he⟩:=Cyz hlt
      obtain ⟨hx,hy⟩:=Czz hb3 he
      have hil:i * 5 + 5 ≤ es.length * 5:=by omega
      have hd:=Bvz false es i he
      simp only at hd
      have hxy:=And.intro hx hy
      (repeat' (first
 | (first|refine Agz ?_|refine Abz ?_)
 | ((first|refine Ahz ?_|refine Aez ?_|refine Aoz ?_);simp (disch:=omega) only [push_cast,seval,l12r0,l12r1,l12r2,l12r3,l12r4,l12r5,l12r6,l12r7,l12r8,l12r9,l12r10,Aaz,hel,hil,hd,decide_true,bne_self_eq_false])
 | ((first|refine Amz (fun h=>?_) (fun h=>?_))<;>(try simp only [h])<;>(try simp only [bitvec_to_nat] at h)<;>(try simp only [h])<;>(first|(exfalso;omega)|(exfalso;simp_all;done)|(simp (disch:=omega) only [push_cast,seval,Aaz,hel,hil,hd,decide_true,bne_self_eq_false])|skip))
 | ((first|refine Alz false ?_);simp (disch:=omega) only [push_cast,seval,Aaz,hel,hil,hd,decide_true,bne_self_eq_false])
 | ((first|((first|refine Akz (Ajz (eqVwS_ok _ _ _ _ _ _ _ ?_ ?_ ?_ ?_ ?_)) ?_|refine Aiz (Ajz (eqVwS_ok _ _ _ _ _ _ _ ?_ ?_ ?_ ?_ ?_)) ⟨_,_,rfl,rfl⟩ ?_);(iterate 5 (exact sd));rintro _ _ ⟨rfl,rfl⟩))<;>(try simp (disch:=omega) only [push_cast,seval,Aaz,hel,hil,hd,decide_true,bne_self_eq_false]))))
      refine ⟨i + 1,by omega,by omega,SubW.of ?_⟩
      (refine Sub.of_lists ?_ ?_ ?_ ?_ ?_<;>simp [Vw.mkS,Vw.lk,Vw.hk,AV.inn,innL,Apz,Anz,Aqz,-List.map_set,-List.getD_eq_getElem?_getD,Aaz])
    · have e:i=es.length:=by omega
      subst e
      (repeat' (first
 | (first|refine Agz ?_|refine Abz ?_)
 | ((first|refine Ahz ?_|refine Aez ?_|refine A1z ?_);simp (disch:=omega) only [push_cast,seval,l12r0,l12r1,l12r2,l12r3,l12r4,l12r5,l12r6,l12r7,l12r8,l12r9,l12r10,Aaz,hel,decide_true])
 | ((first|refine Amz (fun h=>?_) (fun h=>?_))<;>(try simp only [h])<;>(try simp only [bitvec_to_nat] at h)<;>(try simp only [h])<;>(first|(exfalso;omega)|(exfalso;simp_all;done)|(simp (disch:=omega) only [push_cast,seval,Aaz,hel,decide_true])|skip))))
      all_goals ((refine Afz ⟨.inr rfl,_,rfl,?_⟩;try simp (disch:=omega) only [push_cast,seval]))
      all_goals (try rfl)

end Go.Proofs.YtkpcjppnjmhanaaGreatDoor
namespace Go.Proofs.YtkpcjppnjmhanaaGreatDoor
open VwM Vw Go
variable [SentA]

/-- How many are kids of the buffer itself or of one of the first i. -/
def kS (es:List Ex) (k:Nat):Nat → Nat
  | 0=>(kidsT es (-1) k).length
  | i + 1=>kS es k i + (kidsT es (i:Int) k).length
theorem Fhz {es:List Ex}:∀ {k:Nat} {x:Int},x ∈ opensT es k → 0 ≤ x ∧ x < (k:Int)
  | 0,x,h=>by simp [opensT] at h
  | k + 1,x,h=>by
    cases he:es[k]? with
    | none =>
      simp only [opensT,he] at h
      have:=Fhz h
      omega
    | some e =>
      by_cases ho:e.2.2=true
      · rw [Dqz he ho] at h
        rcases List.mem_append.1 h with h1|h1
        · have:=Fhz h1
          omega
        · rw [List.mem_singleton] at h1
          omega
      · rw [Duz he ho] at h
        have:=Fhz h
        omega
theorem opens_gd {es:List Ex} (h:es.length ≤ 9) (j:Nat):-1000 ≤ (opensT es es.length).getD j 0 ∧ (opensT es es.length).getD j 0 ≤ 1000:=by
  by_cases hl:j < (opensT es es.length).length
  · have:=Fhz (Cez hl)
    omega
  · rw [List.getD,List.getElem?_eq_none (Nat.le_of_not_lt hl)];simp
set_option maxHeartbeats 16000000 in
theorem idOf_ok (bs:List Int) (p:Int) (hbs:okB bs) (hp:0 ≤ p ∧ p ≤ 600000) :
    BCall Tryz.prog 40 [.ref 0 2 0] [RD bs p] (fun r H'=>∃ cs es id p',sbP cs es ∧ (-1000 ≤ id ∧ id ≤ 1000) ∧ (p ≤ p' ∧ p' ≤ p + 200) ∧ r=.tup [.agg [.own 1 cs.length 1,.own 2 es.length 5],.int .i64 id] ∧ H'=[RD bs p',IL cs,EL false es]):=by
  obtain ⟨hp1,hp2⟩:=hp
  refine Auz (pins:=[0]) (pin:=1) l40_eq rfl rfl rfl ?_
  have helc:=fun (c:Bool) (es:List Ex)=>Azz c es
  (repeat' (first
 | (first|refine Agz ?_|refine Abz ?_)
 | ((first|refine Ahz ?_);simp (disch:=omega) only [push_cast,seval,l40r0,l40r1,l40r2,l40r3,l40r4,l40r5,l40r6,l40r7,l40r8,l40r9a,l40r9b,l40r9,l40r10a,l40r10b,l40r10,Aaz])
 | ((first|((with_reducible refine A6z (f:=68) [0] true ?_);simp (disch:=omega) only [push_cast,seval,Aaz];(refine E8z (id:=0) (someB_ok _ _ ?_ ?_) (by (simp (disch:=omega) only [push_cast,seval,Aaz])<;>rfl) ?_;(iterate 2 (exact sd));rintro _ _ ⟨csG,esG,pG,hsG,hpG,rfl,rfl⟩)))<;>(try simp (disch:=omega) only [push_cast,seval,Aaz]))))
  refine Ckz (fun i:Nat=>mkS [(6,.int .i64 i),(5,.own 144 (opensT esG i).length 1),(4,.ref 64 2 0),(3,.int .i64 0),(2,.ref 32 2 0),(0,.ref 0 2 0)] [(144,IL (opensT esG i)),(64,[.own 128 csG.length 1,.own 129 esG.length 5]),(0,[.rows false (UL bs) bs.length,.int .i64 pG]),(128,IL csG),(129,EL false esG),(32,[.val (.slice none 0 0),.val (.slice none 0 0)])]) (fun i=>i ≤ esG.length) (fun i=>esG.length - i) 0 (Nat.zero_le _) ?_ ?_
  · have e0:opensT esG 0=[]:=rfl
    refine SubW.of ?_
    (refine Sub.of_lists ?_ ?_ ?_ ?_ ?_<;>simp [Vw.mkS,Vw.lk,Vw.hk,AV.inn,innL,Apz,Anz,Aqz,-List.map_set,-List.getD_eq_getElem?_getD,Aaz,e0])
  · intro i hi
    have hs8:=hsG.2.1
    have hel:=Azz false esG
    have hkl:=Enz esG i
    by_cases hlt:i < esG.length
    · obtain ⟨pp,b,x,y,o,he⟩:=Cyz hlt
      have hd:=Bvz false esG i he
      simp only at hd
      have hd4:((EL false esG).drop (i * 5 + 4)).take 1=[.bool o]:=by have:=congrArg (fun l=>(l.drop 4).take 1) hd;simpa [List.drop_take,List.take_take] using this
      have hil:i * 5 + 5 ≤ esG.length * 5:=by omega
      cases o with
 | false =>
        have e1:=Duz he (by simp)
        (repeat' (first
 | (first|refine Agz ?_|refine Abz ?_)
 | ((first|refine Ahz ?_|refine Aez ?_|refine Aoz ?_);simp (disch:=omega) only [push_cast,seval,l40r0,l40r1,l40r2,l40r3,l40r4,l40r5,l40r6,l40r7,l40r8,l40r9a,l40r9b,l40r9,l40r10a,l40r10b,l40r10,Aaz,hel,hil,hd4])
 | ((first|refine Amz (fun h=>?_) (fun h=>?_))<;>(try simp only [h])<;>(try simp only [bitvec_to_nat] at h)<;>(try simp only [h])<;>(first|(exfalso;omega)|(exfalso;simp_all;done)|(simp (disch:=omega) only [push_cast,seval,Aaz,hel,hil,hd4])|skip))))
        refine ⟨i + 1,by omega,by omega,SubW.of ?_⟩
        (refine Sub.of_lists ?_ ?_ ?_ ?_ ?_<;>simp [Vw.mkS,Vw.lk,Vw.hk,AV.inn,innL,Apz,Anz,Aqz,-List.map_set,-List.getD_eq_getElem?_getD,Aaz,e1])
 | true =>
        have e1:=Dqz he rfl
        (repeat' (first
 | (first|refine Agz ?_|refine Abz ?_)
 | ((first|refine Ahz ?_|refine Aez ?_|refine Aoz ?_);simp (disch:=omega) only [push_cast,seval,l40r0,l40r1,l40r2,l40r3,l40r4,l40r5,l40r6,l40r7,l40r8,l40r9a,l40r9b,l40r9,l40r10a,l40r10b,l40r10,Aaz,hel,hil,hd4,hkl])
 | ((first|refine Amz (fun h=>?_) (fun h=>?_))<;>(try simp only [h])<;>(try simp only [bitvec_to_nat] at h)<;>(try simp only [h])<;>(first|(exfalso;omega)|(exfalso;simp_all;done)|(simp (disch:=omega) only [push_cast,seval,Aaz,hel,hil,hd4,hkl])|skip))))
        refine ⟨i + 1,by omega,by omega,SubW.of ?_⟩
        (refine Sub.of_lists ?_ ?_ ?_ ?_ ?_<;>simp [Vw.mkS,Vw.lk,Vw.hk,AV.inn,innL,Apz,Anz,Aqz,-List.map_set,-List.getD_eq_getElem?_getD,Aaz,e1,List.length_append])
    · have e:i=esG.length:=by omega
      subst e
      (repeat' (first
 | (first|refine Agz ?_|refine Abz ?_)
 | ((first|refine Ahz ?_|refine Bsz (mid:=l40r9a) (post:=l40r9b) [0,32] mixed (by decide) ?_|refine Bsz (mid:=l40r10a) (post:=l40r10b) [0] mixed (by decide) ?_|refine Aez ?_|refine Aoz ?_|refine A1z ?_);simp (disch:=omega) only [push_cast,seval,l40r0,l40r1,l40r2,l40r3,l40r4,l40r5,l40r6,l40r7,l40r8,l40r9a,l40r9b,l40r9,l40r10a,l40r10b,l40r10,Aaz,hel])
 | ((first|refine Amz (fun h=>?_) (fun h=>?_)|refine Bez (fun h=>?_) (fun h=>?_))<;>(try simp only [h])<;>(try simp only [bitvec_to_nat] at h)<;>(try simp only [h])<;>(first|(exfalso;omega)|(exfalso;simp_all;done)|(simp (disch:=omega) only [push_cast,seval,Aaz,hel])|skip))
 | ((first|((with_reducible refine A6z (f:=65) [0] true ?_);simp (disch:=omega) only [push_cast,seval,Aaz,hel];(refine E8z (id:=0) (Hvz _ _ _ ?_ ?_) (by (simp (disch:=omega) only [push_cast,seval,Aaz,hel])<;>rfl) ?_;(iterate 2 (exact sd));rintro _ _ ⟨x,hx0,hx1,rfl,rfl⟩))|((with_reducible refine Emz (f:=65) [0] true ?_);simp (disch:=omega) only [push_cast,seval,Aaz,hel];(refine I5z (id:=0) (Hvz _ _ _ ?_ ?_) (by (simp (disch:=omega) only [push_cast,seval,Aaz,hel])<;>rfl) (by decide) ⟨_,_,0,by omega,Or.inr (Or.inr rfl),rfl,rfl⟩ ?_;(iterate 2 (exact sd));rintro _ _ ⟨x,hx0,hx1,rfl,rfl⟩))|((with_reducible refine Emz (f:=57) [0] true ?_);simp (disch:=omega) only [push_cast,seval,Aaz,hel];(refine I5z (id:=0) (oneR_ok _ _ _ _ ?_ ?_ ?_ ?_ ?_) (by (simp (disch:=omega) only [push_cast,seval,Aaz,hel])<;>rfl) (by decide) (by simp only [Euz,Glz];exact ⟨_,_,_,List.mem_cons_self,by omega,rfl,rfl⟩) ?_;(iterate 5 (exact sd));rintro _ _ ⟨x,hx,hx0,rfl,rfl⟩)))<;>(try simp (disch:=omega) only [push_cast,seval,Aaz,hel]))))
      all_goals ((refine Afz ⟨.inr rfl,[128,129],[],_,by decide,rfl,?_⟩;(try simp (disch:=omega) only [push_cast,seval,↓Adz,↓Acz,↓List.map_cons,↓List.map_nil,Aaz])))
      all_goals first
        | exact ⟨csG,esG,_,_,hsG,opens_gd hs8 _,by omega,rfl,rfl⟩
        | exact ⟨csG,esG,_,_,hsG,by assumption,by omega,rfl,rfl⟩



end Go.Proofs.YtkpcjppnjmhanaaGreatDoor
namespace Go.Proofs.YtkpcjppnjmhanaaGreatDoor
open VwM Vw Go
variable [SentA]

theorem G9z {es:List Ex} {q:Nat}:∀ {k:Nat},(q:Int) ∈ opensT es k → ∃ e,es[q]?=some e ∧ e.2.2=true
  | 0,h=>by simp [opensT] at h
  | k + 1,h=>by
    cases he:es[k]? with
    | none =>
      simp only [opensT,he] at h
      exact G9z h
    | some e =>
      by_cases ho:e.2.2=true
      · rw [Dqz he ho] at h
        rcases List.mem_append.1 h with h1|h1
        · exact G9z h1
        · rw [List.mem_singleton] at h1
          have:q=k:=by omega
          subst this
          exact ⟨e,he,ho⟩
      · rw [Duz he ho] at h
        exact G9z h
end Go.Proofs.YtkpcjppnjmhanaaGreatDoor
namespace Go.Proofs.YtkpcjppnjmhanaaGreatDoor
open VwM Vw Go
variable [SentA]

theorem opA_of {es:List Ex} {q:Nat} {p b:Int} {x y:List Int} (h:q < es.length) (he:es[q]?=some (p,(b,x,y),true)):opA es q=true ∧ vwA es q=(b,x,y):=by
  constructor
  · unfold opA
    simp only [Int.toNat_natCast,he,Bool.and_true,Bool.and_eq_true,decide_eq_true_eq]
    omega
  · simp [vwA,List.getD,he]
theorem loadA_at {cs:List Int} {es:List Ex} {q:Nat} {p b:Int} {x y:List Int} (hv:vB cs es=true) (h:q < es.length) (he:es[q]?=some (p,(b,x,y),true)):loadA cs es q=takesL cs (offs b x y):=by
  obtain ⟨h1,h2⟩:=opA_of h he
  unfold loadA
  rw [hv,h1,h2];rfl


theorem iLEP_ok (cs:List Int) (es:List Ex) (m n:Nat) (id:Int) (hm:cs.length=m) (hn:es.length=n) (hb:m ≤ 1099511627776 ∧ n ≤ 1099511627776 ∧ exB 1099511627776 es) :
    PCall Tryz.prog 16 [.agg [.rows false (IL cs) m,.rows false (EL false es) n],.int .i64 id] (fun r=>r=.rows true (IL (loadA cs es id)) (loadA cs es id).length):=by
  refine (BCall.plain (iLE_ok cs es m n id hm hn hb)).mono ?_
  rintro r ⟨r0,H',⟨rfl,rfl⟩,rfl⟩
  simp [AV.ren,nthH,List.map_map,Function.comp_def]


end Go.Proofs.YtkpcjppnjmhanaaGreatDoor
