/- Texts of this verifier. -/
import Derived.Test.YtkpcjppnjmhanaaDoorCB11
import Derived.Test.YtkpcjppnjmhanaaDoorCM1
set_option maxHeartbeats 4000000
set_option linter.unusedSimpArgs false
set_option linter.unusedSectionVars false
set_option linter.unusedVariables false
set_option maxRecDepth 4000
namespace Go.Proofs.YtkpcjppnjmhanaaDoor
open VwM Vw Go
variable [SentA]

theorem zcX0:zcells [AV.int .i64 0,.int .i64 0,.val (.slice none 0 0),.val (.slice none 0 0),.bool false] 1=[AV.int .i64 0,.int .i64 0,.val (.slice none 0 0),.val (.slice none 0 0),.bool false]:=zcX _ _ _ _ _
theorem Lzz (es:List Ex) (a b:Int) (o:Bool):EL false (es ++ [(a,(b,[],[]),o)])=EL false es ++ [.int .i64 a,.int .i64 b,.rows false [] 0,.rows false [] 0,.bool o]:=by rw [H4z];rfl
abbrev sbP (cs:List Int) (es:List Ex):Prop:=cs.length ≤ 61 ∧ es.length ≤ 9 ∧ exB 4 es
theorem exB_nil1 {es:List Ex} {a b:Int} {o:Bool} (h:exB 4 es):exB 4 (es ++ [(a,(b,[],[]),o)]):=fun e he=>by
  rcases List.mem_append.1 he with h1|h1
  · exact h e h1
  · rw [List.mem_singleton] at h1;subst h1;exact ⟨Nat.zero_le _,Nat.zero_le _⟩


set_option maxHeartbeats 16000000 in
theorem K5z (bs:List Int) (p:Int) (hbs:okB bs) (hp:0 ≤ p ∧ p ≤ 700000) :
    BCall Tryd.prog 24 [.ref 0 2 0] [RD bs p] (fun r H'=>∃ cs es p',sbP cs es ∧ (p ≤ p' ∧ p' ≤ p + 120) ∧ r=.agg [.own 1 cs.length 1,.own 2 es.length 5] ∧ H'=[RD bs p',IL cs,EL false es]):=by
  obtain ⟨hp1,hp2⟩:=hp
  refine A3z (pins:=[0]) (pin:=1) l24_eq rfl rfl rfl ?_
  have helc:=fun (c:Bool) (es:List Ex)=>A4z c es
  (repeat' (first
 | (first|refine Apz ?_|refine Aiz ?_)
 | ((first|refine Aqz ?_|refine A6z (mid:=l24r6a) (post:=l24r6b) [0] Axz (by decide) ?_|refine Ahz ?_|refine Ajz ?_|refine Akz ?_);simp (disch:=omega) only [push_cast,seval,l24r0,l24r1,l24r2,l24r3,l24r4,l24r5,l24r6a,l24r6b,l24r6,l24r7,l24r8,l24r9,Aaz,zcX0])
 | ((first|refine Acz ?_ ?_|refine Agz ?_ ?_|refine Afz ?_ ?_)<;>intro h<;>(try simp only [h])<;>(try simp only [bitvec_to_nat] at h)<;>(try simp only [h])<;>(first|(exfalso;omega)|(exfalso;simp_all;done)|(simp (disch:=omega) only [push_cast,seval,Aaz,zcX0])|skip))
 | ((first|((with_reducible refine Azz (f:=44) [0] true ?_);simp (disch:=omega) only [push_cast,seval,Aaz,zcX0];(refine Dpz (id:=0) (goodB_ok _ _ ?_ ?_) (by (simp (disch:=omega) only [push_cast,seval,Aaz,zcX0])<;>rfl) ?_;(iterate 2 (exact sd));rintro _ _ ⟨csG,esG,cG,pG,hvG,⟨hb1,hb2,hb3⟩,hpG,rfl,rfl⟩))|((with_reducible refine Azz (f:=40) [0] true ?_);simp (disch:=omega) only [push_cast,seval,Aaz,zcX0];(refine Dpz (id:=0) (Dlz _ _ _ ?_ ?_) (by (simp (disch:=omega) only [push_cast,seval,Aaz,zcX0])<;>rfl) ?_;(iterate 2 (exact sd));rintro _ _ ⟨x,hx0,hx1,rfl,rfl⟩))|((with_reducible refine Bxz (f:=40) [0] true ?_);simp (disch:=omega) only [push_cast,seval,Aaz,zcX0];(refine Dbz (id:=0) (Dlz _ _ _ ?_ ?_) (by (simp (disch:=omega) only [push_cast,seval,Aaz,zcX0])<;>rfl) (by decide) ⟨_,_,0,by omega,Or.inr (Or.inr rfl),rfl,rfl⟩ ?_;(iterate 2 (exact sd));rintro _ _ ⟨x,hx0,hx1,rfl,rfl⟩))|((with_reducible refine Azz (f:=41) (args:=[Operand.tmp 19,Operand.tmp 20]) [0,320] true ?_);simp (disch:=omega) only [push_cast,seval,Aaz,zcX0];(refine Czz (id:=0) (id':=320) (by decide) (Eez _ _ _ _ ?_ ?_ ?_ ?_ ?_) (by (simp (disch:=omega) only [push_cast,seval,Aaz,zcX0])<;>rfl) (by (simp (disch:=omega) only [push_cast,seval,Aaz,zcX0])<;>rfl) ?_;(iterate 5 (exact sd));rintro _ _ ⟨x,hx,hx0,rfl,rfl⟩))|((with_reducible refine Azz (f:=41) [0] true ?_);simp (disch:=omega) only [push_cast,seval,Aaz,zcX0];(refine Dpz (id:=0) (C8z _ _ _ _ ?_ ?_ ?_ ?_ ?_) (by (simp (disch:=omega) only [push_cast,seval,Aaz,zcX0])<;>rfl) ?_;(iterate 5 (exact sd));rintro _ _ ⟨x,hx,hx0,rfl,rfl⟩))|((with_reducible refine Bxz (f:=41) [0] true ?_);simp (disch:=omega) only [push_cast,seval,Aaz,zcX0];(refine Dbz (id:=0) (C8z _ _ _ _ ?_ ?_ ?_ ?_ ?_) (by (simp (disch:=omega) only [push_cast,seval,Aaz,zcX0])<;>rfl) (by decide) (by simp only [Djz,Ekz];exact ⟨_,_,_,List.mem_cons_self,by omega,rfl,rfl⟩) ?_;(iterate 5 (exact sd));rintro _ _ ⟨x,hx,hx0,rfl,rfl⟩)))<;>(try simp (disch:=omega) only [push_cast,seval,Aaz,zcX0]))))
  all_goals refine awp_subW (SubW.toF [81] SubW.rfl') ?_
  all_goals simp only [toFL,List.map_cons,List.map_nil,List.map_append,List.contains_cons,List.contains_nil,Nat.reduceBEq,BEq.rfl,Bool.or_false,Bool.false_eq_true,↓reduceIte,toF_EL,toF]
  all_goals first
    | ((refine Amz ⟨.inr rfl,[80,81],[],_,by decide,rfl,?_⟩;(try simp (disch:=omega) only [push_cast,seval,↓Aoz,↓Alz,↓List.map_cons,↓List.map_nil,Aaz]));exact ⟨csG,esG,_,⟨by omega,by omega,hb3⟩,by omega,rfl,rfl⟩)
    | ((refine Amz ⟨.inr rfl,[80,81],[],_,by decide,rfl,?_⟩;(try simp (disch:=omega) only [push_cast,seval,↓Aoz,↓Alz,↓List.map_cons,↓List.map_nil,Aaz,List.map_append,List.length_append,List.length_map]));refine ⟨csG ++ [256],esG,pG + 1,⟨by rw [List.length_append,List.length_singleton];omega,by omega,hb3⟩,by omega,by rw [List.length_append,List.length_singleton],?_⟩;unfold IL;rw [List.map_append];rfl)
    | ((refine Amz ⟨.inr rfl,[80,81],[],_,by decide,rfl,?_⟩;(try simp (disch:=omega) only [push_cast,seval,↓Aoz,↓Alz,↓List.map_cons,↓List.map_nil,Aaz,List.map_append,List.length_append,List.length_map]));refine ⟨csG,esG ++ [(x,(0,[],[]),true)],pG + 1 + 1,⟨by omega,by rw [List.length_append,List.length_singleton];omega,exB_nil1 hb3⟩,by omega,by rw [List.length_append,List.length_singleton],?_⟩;first|(rw [Lzz];done)|(rw [Lzz];rfl))
    | ((refine Amz ⟨.inr rfl,[80,81],[],_,by decide,rfl,?_⟩;(try simp (disch:=omega) only [push_cast,seval,↓Aoz,↓Alz,↓List.map_cons,↓List.map_nil,Aaz,List.map_append,List.length_append,List.length_map]));refine ⟨csG,esG ++ [(-1,(59,[],[]),true)],pG + 1,⟨by omega,by rw [List.length_append,List.length_singleton];omega,exB_nil1 hb3⟩,by omega,by rw [List.length_append,List.length_singleton],?_⟩;first|(rw [Lzz];done)|(rw [Lzz];rfl))

end Go.Proofs.YtkpcjppnjmhanaaDoor
namespace Go.Proofs.YtkpcjppnjmhanaaDoor
open VwM Vw Go
variable [SentA]

/-- All closed. -/
def cloE (e:Ex):Ex:=(e.1,e.2.1,false)
def cloL (es:List Ex) (i:Nat):List Ex:=(es.take i).map cloE ++ es.drop i
theorem cloL_length (es:List Ex) (i:Nat):(cloL es i).length=es.length:=by unfold cloL;simp;omega
theorem cloL_zero (es:List Ex):cloL es 0=es:=by simp [cloL]
theorem cloL_all (es:List Ex):cloL es es.length=es.map cloE:=by simp [cloL]
theorem cloL_at {es:List Ex} {i:Nat} {e:Ex} (h:es[i]?=some e):(cloL es i)[i]?=some e ∧ (cloL es i).set i (e.1,e.2.1,false)=cloL es (i + 1):=by
  have hi:=(List.getElem?_eq_some_iff.1 h).1
  have hl:((es.take i).map cloE).length=i:=by simp;omega
  have hd:es.drop i=e :: es.drop (i + 1):=by
    rw [List.drop_eq_getElem_cons hi,(List.getElem?_eq_some_iff.1 h).2]
  unfold cloL
  rw [hd]
  constructor
  · rw [List.getElem?_append_right (by omega),hl,Nat.sub_self];rfl
  · rw [List.set_append_right _ _ (by omega),hl,Nat.sub_self,List.set_cons_zero,List.take_succ_eq_append_getElem hi,List.map_append,(List.getElem?_eq_some_iff.1 h).2,List.append_assoc]
    rfl
theorem exB_clo {n:Nat} {es:List Ex} (h:exB n es):exB n (es.map cloE):=fun e he=>by
  obtain ⟨f,hf,rfl⟩:=List.mem_map.1 he
  exact h f hf
abbrev sbQ (cs:List Int) (es:List Ex):Prop:=(cs.length ≤ 1099511627776 ∧ es.length ≤ 1099511627776 ∧ exB 1099511627776 es) ∧ (cs.length ≤ 1048576 ∧ es.length ≤ 1048576 ∧ exB 1048576 es) ∧ cs.length ≤ 61 ∧ es.length ≤ 9 ∧ exB 4 es
theorem sbQ_of {cs:List Int} {es:List Ex} (h:sbP cs es):sbQ cs es:=⟨⟨by have:=h.1;omega,by have:=h.2.1;omega,fun e he=>by have:=h.2.2 e he;omega⟩,⟨by have:=h.1;omega,by have:=h.2.1;omega,fun e he=>by have:=h.2.2 e he;omega⟩,h⟩


theorem Idz (cs:List Int) (m:Nat) (hm:cs.length=m) (hb:cs.length ≤ 1099511627776 ∧ ([]:List Ex).length ≤ 1099511627776 ∧ exB 1099511627776 []):PCall Tryd.prog 8 [.agg [.rows false (IL cs) m,.rows false [] 0]] (fun r=>r=.bool (vB cs [])):=by
  subst hm
  exact B8z cs [] _ _ rfl rfl hb

end Go.Proofs.YtkpcjppnjmhanaaDoor
namespace Go.Proofs.YtkpcjppnjmhanaaDoor
open VwM Vw Go
variable [SentA]

theorem Bqz (xs ys:List Int) (n m:Nat) (hn:xs.length=n) (hm:ys.length=m) (hb:n ≤ 1099511627776 ∧ m ≤ 1099511627776):PCall Tryd.prog 13 [.rows false (IL xs) n,.rows false (IL ys) m] (fun r=>r=.bool (decide (xs=ys))):=by
  subst hn hm
  refine A5z l13_eq rfl ?_
  by_cases hl:xs.length=ys.length
  · have hl':(xs.length:Int)=ys.length:=by omega
    (repeat' (first
 | (first|refine Apz ?_|refine Aiz ?_)
 | ((first|refine Aqz ?_|refine Asz (mid:=l13r5a) (post:=l13r5b) Axz (by decide) ?_|refine Ahz ?_|refine Ajz ?_|refine Akz ?_);simp (disch:=omega) only [push_cast,seval,l13r0,l13r1,l13r2,l13r3,l13r4,l13r5a,l13r5b,l13r5,l13r6,l13r7,l13r8,hl'])
 | ((first|refine Acz ?_ ?_|refine Agz ?_ ?_|refine Afz ?_ ?_)<;>intro h<;>(try simp only [h])<;>(try simp only [bitvec_to_nat] at h)<;>(try simp only [h])<;>(first|(exfalso;omega)|(exfalso;simp_all;done)|(simp (disch:=omega) only [push_cast,seval,hl'])|skip))
 | (refine Amz ⟨.inr rfl,_,rfl,?_⟩;(try simp (disch:=omega) only [push_cast,seval,hl']))))
    refine B3z (fun k:Nat=>mkS [(0,RI xs),(1,RI ys),(5,.int .i64 k)] []) (fun k=>k ≤ xs.length ∧ ∀ j:Nat,j < k → xs.getD j 0=ys.getD j 0) (fun k=>xs.length - k) 0 ⟨Nat.zero_le _,fun j h=>absurd h (Nat.not_lt_zero _)⟩ ?_ ?_
    · (refine Sub.of_lists ?_ ?_ ?_ ?_ ?_<;>simp [Vw.mkS,Vw.lk,Vw.hk,AV.inn,innL,Awz,Atz,Ayz,-List.map_set,-List.getD_eq_getElem?_getD,hl])
    · rintro k ⟨hk,hj⟩
      by_cases hlt:k < xs.length
      · (repeat' (first
 | (first|refine Apz ?_|refine Aiz ?_)
 | ((first|refine Aqz ?_|refine Asz (mid:=l13r5a) (post:=l13r5b) Axz (by decide) ?_|refine Ahz ?_|refine Ajz ?_|refine Akz ?_);simp (disch:=omega) only [push_cast,seval,l13r0,l13r1,l13r2,l13r3,l13r4,l13r5a,l13r5b,l13r5,l13r6,l13r7,l13r8])
 | ((first|refine Acz ?_ ?_|refine Agz ?_ ?_|refine Afz ?_ ?_)<;>intro h<;>(try simp only [h])<;>(try simp only [bitvec_to_nat] at h)<;>(try simp only [h])<;>(first|(exfalso;omega)|(exfalso;simp_all;done)|(simp (disch:=omega) only [push_cast,seval])|skip))
 | (refine Amz ⟨.inr rfl,_,rfl,?_⟩;(try simp (disch:=omega) only [push_cast,seval]))))
        · simp;rintro rfl;exact absurd rfl ‹_›
        · refine ⟨k + 1,⟨by omega,fun j h=>?_⟩,by omega,?_⟩
          · by_cases hjk:j=k
            · subst hjk;assumption
            · exact hj j (by omega)
          · (refine Sub.of_lists ?_ ?_ ?_ ?_ ?_<;>simp [Vw.mkS,Vw.lk,Vw.hk,AV.inn,innL,Awz,Atz,Ayz,-List.map_set,-List.getD_eq_getElem?_getD])
      · (repeat' (first
 | (first|refine Apz ?_|refine Aiz ?_)
 | ((first|refine Aqz ?_|refine Asz (mid:=l13r5a) (post:=l13r5b) Axz (by decide) ?_|refine Ahz ?_|refine Ajz ?_|refine Akz ?_);simp (disch:=omega) only [push_cast,seval,l13r0,l13r1,l13r2,l13r3,l13r4,l13r5a,l13r5b,l13r5,l13r6,l13r7,l13r8])
 | ((first|refine Acz ?_ ?_|refine Agz ?_ ?_|refine Afz ?_ ?_)<;>intro h<;>(try simp only [h])<;>(try simp only [bitvec_to_nat] at h)<;>(try simp only [h])<;>(first|(exfalso;omega)|(exfalso;simp_all;done)|(simp (disch:=omega) only [push_cast,seval])|skip))
 | (refine Amz ⟨.inr rfl,_,rfl,?_⟩;(try simp (disch:=omega) only [push_cast,seval]))))
        have:xs=ys:=Kjz hl fun j h=>hj j (by omega)
        simp [this]
  · have hl':¬ (xs.length:Int)=ys.length:=by omega
    have:¬ xs=ys:=by rintro rfl;exact hl rfl
    (repeat' (first
 | (first|refine Apz ?_|refine Aiz ?_)
 | ((first|refine Aqz ?_|refine Asz (mid:=l13r5a) (post:=l13r5b) Axz (by decide) ?_|refine Ahz ?_|refine Ajz ?_|refine Akz ?_);simp (disch:=omega) only [push_cast,seval,l13r0,l13r1,l13r2,l13r3,l13r4,l13r5a,l13r5b,l13r5,l13r6,l13r7,l13r8,hl'])
 | ((first|refine Acz ?_ ?_|refine Agz ?_ ?_|refine Afz ?_ ?_)<;>intro h<;>(try simp only [h])<;>(try simp only [bitvec_to_nat] at h)<;>(try simp only [h])<;>(first|(exfalso;omega)|(exfalso;simp_all;done)|(simp (disch:=omega) only [push_cast,seval,hl'])|skip))
 | (refine Amz ⟨.inr rfl,_,rfl,?_⟩;(try simp (disch:=omega) only [push_cast,seval,hl']))))
    simp [this]

end Go.Proofs.YtkpcjppnjmhanaaDoor
namespace Go.Proofs.YtkpcjppnjmhanaaDoor
open VwM Vw Go
variable [SentA]

theorem Iez (cs:List Int) (es:List Ex) (m n:Nat) (s:Int) (hm:cs.length=m) (hn:es.length=n) (hb:m ≤ 1048576 ∧ n ≤ 1048576 ∧ exB 1048576 es) :
    PCall Tryd.prog 20 [.agg [.rows false (IL cs) m,.rows false (EL false es) n],.int .i64 s] (fun r=>r=.tup [.agg [.rows true (IL (ifB (rzG cs es s) (zz cs s.toNat))) (ifB (rzG cs es s) (zz cs s.toNat)).length,.rows true (EL true (ifB (rzG cs es s) es)) (ifB (rzG cs es s) es).length],.bool (rzG cs es s)]) :=
  OBf_plain (iRz_ok cs es m n s hm hn hb)

end Go.Proofs.YtkpcjppnjmhanaaDoor
namespace Go.Proofs.YtkpcjppnjmhanaaDoor
open VwM Vw Go
variable [SentA]

theorem zz_take {cs:List Int} {N k:Nat} (h1:k ≤ N) (h2:k ≤ cs.length):(zz cs N).take k=cs.take k:=by
  unfold zz
  apply List.ext_getElem?
  intro j
  by_cases hj:j < k
  · rw [List.getElem?_take_of_lt hj,List.getElem?_take_of_lt hj,List.getElem?_map,List.getElem?_range (by omega),List.getElem?_eq_getElem (by omega:j < cs.length)]
    simp [List.getD,List.getElem?_eq_getElem (by omega:j < cs.length)]
  · rw [List.getElem?_eq_none (by simp;omega),List.getElem?_eq_none (by simp;omega)]
theorem OBs_plain {P:Program} {f:Nat} {args:List AV} {ok:Bool} {cs:List Int} {es:List Ex} (h:BCall P f args [] (OBs ok cs es)):PCall P f args (fun r=>r=.tup [.agg [.rows true (IL cs) cs.length,.rows true (EL true es) es.length],.bool ok]):=by
  refine (BCall.plain h).mono ?_
  rintro r ⟨r0,H',⟨rfl,rfl⟩,rfl⟩
  simp [AV.ren,nthH,I9z,A4z]
theorem rz_bnd {cs:List Int} {es:List Ex} {s:Int} (h:sbQ cs es) (hs:-1000 ≤ s ∧ s ≤ 1000):(ifB (rzG cs es s) (zz cs s.toNat)).length ≤ 1099511627776 ∧ (ifB (rzG cs es s) es).length ≤ 1099511627776 ∧ exB 1099511627776 (ifB (rzG cs es s) es):=by
  have:=h.1
  cases rzG cs es s with
  | false=>exact ⟨Nat.zero_le _,Nat.zero_le _,fun e he=>by cases he⟩
  | true=>exact ⟨by rw [Cbz,Ftz];omega,by rw [Cbz];exact this.2.1,by rw [Cbz];exact this.2.2⟩
abbrev rbQ (cs:List Int) (es:List Ex) (s:Int):Prop:=((ifB (rzG cs es s) (zz cs s.toNat)).length ≤ 1099511627776 ∧ (ifB (rzG cs es s) es).length ≤ 1099511627776 ∧ exB 1099511627776 (ifB (rzG cs es s) es)) ∧ (opensA cs es).length ≤ es.length ∧ -1000 ≤ s ∧ s ≤ 1000
theorem rz_no {cs:List Int} {es:List Ex} {s:Int} (hv:vB cs es=true) (h:(if s < 0 then true else decide (60 < s))=false) (hr:rzG cs es s=false):0 < ((opensA cs es).length:Int):=by
  have h0:¬ s < 0:=fun e=>by rw [if_pos e] at h;cases h
  rw [if_neg h0] at h
  have h1:=of_decide_eq_false h
  unfold opensA
  rw [if_pos hv]
  by_cases e:(opensT es es.length).length=0
  · have:rzG cs es s=true:=by
      unfold rzG
      rw [hv,e]
      simp only [Bool.true_and,Bool.and_eq_true,decide_eq_true_eq,and_true]
      omega
    rw [this] at hr;cases hr
  · omega
theorem rz_yes {cs:List Int} {es:List Ex} {s:Int} (h:rzG cs es s=true):∃ N:Nat,s=N ∧ N ≤ 60 ∧ (opensA cs es).length=0 ∧ vB (zz cs N) es=true:=by
  have hv:=vB_rz h
  unfold rzG at h
  simp only [Bool.and_eq_true,decide_eq_true_eq] at h
  refine ⟨s.toNat,by omega,by omega,?_,hv⟩
  unfold opensA
  rw [if_pos h.1.1]
  exact h.2


theorem Fdz (cs:List Int) (es:List Ex) (m n:Nat) (hm:cs.length=m) (hn:es.length=n) (hb:m ≤ 1099511627776 ∧ n ≤ 1099511627776 ∧ exB 1099511627776 es) :
    PCall Tryd.prog 10 [.agg [.rows false (IL cs) m,.rows false (EL false es) n]] (fun r=>r=.rows true (IL (opensA cs es)) (opensA cs es).length):=by
  refine (BCall.plain (iOpen_ok cs es m n hm hn hb)).mono ?_
  rintro r ⟨r0,H',⟨rfl,rfl⟩,rfl⟩
  simp [AV.ren,nthH,List.map_map,Function.comp_def]




theorem H9z (cs:List Int) (es:List Ex) (m n:Nat) (s:Int) (hm:cs.length=m) (hn:es.length=n) (hb:m ≤ 1099511627776 ∧ n ≤ 1099511627776 ∧ exB 1099511627776 es) :
    PCall Tryd.prog 22 [.agg [.rows false (IL cs) m,.rows false (EL false es) n],.int .i64 s] (fun r=>r=.tup [.agg [.rows true (IL (ifB (rzG cs es s) (zz cs s.toNat))) (ifB (rzG cs es s) (zz cs s.toNat)).length,.rows true (EL true (ifB (rzG cs es s) es)) (ifB (rzG cs es s) es).length],.bool (rzG cs es s)]) :=
  OBs_plain (sRz_ok cs es m n s hm hn hb)


theorem Gqz (b:Int) (s t:List Int) (n m n' m':Nat) (h1:s.length=n) (h2:t.length=m) (h3:s.length=n') (h4:t.length=m') (hb:s.length ≤ 1099511627776 ∧ t.length ≤ 1099511627776):PCall Tryd.prog 43 [.agg [.int .i64 b,.rows false (IL s) n,.rows false (IL t) m],.agg [.int .i64 b,.rows false (IL s) n',.rows false (IL t) m']] (fun r=>r=.bool true):=by
  subst h1 h2 h3 h4
  obtain ⟨q1,q2⟩:=hb
  refine A5z l43_eq rfl ?_
  (repeat' (first
 | (first|refine Apz ?_|refine Aiz ?_)
 | ((first|refine Aqz ?_|refine Ahz ?_|refine Ajz ?_|refine Akz ?_);simp (disch:=omega) only [push_cast,seval,l43r0,l43r1,decide_true])
 | ((first|refine Acz ?_ ?_|refine Agz ?_ ?_|refine Afz ?_ ?_)<;>intro h<;>(try simp only [h])<;>(try simp only [bitvec_to_nat] at h)<;>(try simp only [h])<;>(first|(exfalso;omega)|(exfalso;simp_all;done)|(simp (disch:=omega) only [push_cast,seval,decide_true])|skip))
 | ((first|refine Arz false ?_|refine Anz false ?_);simp (disch:=omega) only [push_cast,seval,decide_true])
 | ((first|((first|refine Adz (Aez (Bqz _ _ _ _ ?_ ?_ ?_)) ?_|refine Abz (Aez (Bqz _ _ _ _ ?_ ?_ ?_)) ⟨_,_,rfl,rfl⟩ ?_);(iterate 3 (exact sd));rintro _ _ ⟨rfl,rfl⟩))<;>(try simp (disch:=omega) only [push_cast,seval,decide_true]))
 | (refine Amz ⟨.inr rfl,_,rfl,?_⟩;(try simp (disch:=omega) only [push_cast,seval,decide_true]))))


set_option maxHeartbeats 8000000 in
theorem Ffz (cs:List Int) (es:List Ex) (n m n' m':Nat) (hn:cs.length=n) (hm:es.length=m) (hn':cs.length=n') (hm':es.length=m') (hb:cs.length ≤ 1099511627776 ∧ es.length ≤ 1099511627776 ∧ exB 1099511627776 es):PCall Tryd.prog 23 [.agg [.rows false (IL cs) n,.rows false (EL false es) m],.agg [.rows false (IL cs) n',.rows false (EL false es) m']] (fun r=>r=.bool true):=by
  subst hn hm hn' hm'
  refine A5z l23_eq rfl ?_
  obtain ⟨hb1,hb2,hb3⟩:=hb
  have hel:=A4z false es
  (repeat' (first
 | (first|refine Apz ?_|refine Aiz ?_)
 | ((first|refine Aqz ?_|refine Ahz ?_|refine Ajz ?_|refine Akz ?_);simp (disch:=omega) only [push_cast,seval,l23r0,l23r1,l23r2,l23r3,l23r4,l23r5,l23r6,l23r7,l23r8,l23r9,l23r10,Aaz,hel,decide_true])
 | ((first|refine Acz ?_ ?_|refine Agz ?_ ?_|refine Afz ?_ ?_)<;>intro h<;>(try simp only [h])<;>(try simp only [bitvec_to_nat] at h)<;>(try simp only [h])<;>(first|(exfalso;omega)|(exfalso;simp_all;done)|(simp (disch:=omega) only [push_cast,seval,Aaz,hel,decide_true])|skip))
 | ((first|refine Arz false ?_|refine Anz false ?_);simp (disch:=omega) only [push_cast,seval,Aaz,hel,decide_true])
 | ((first|((first|refine Adz (Aez (Bqz _ _ _ _ ?_ ?_ ?_)) ?_|refine Abz (Aez (Bqz _ _ _ _ ?_ ?_ ?_)) ⟨_,_,rfl,rfl⟩ ?_);(iterate 3 (exact sd));rintro _ _ ⟨rfl,rfl⟩)|((first|refine Adz (Aez (Gqz _ _ _ _ _ _ _ ?_ ?_ ?_ ?_ ?_)) ?_|refine Abz (Aez (Gqz _ _ _ _ _ _ _ ?_ ?_ ?_ ?_ ?_)) ⟨_,_,rfl,rfl⟩ ?_);(iterate 5 (exact sd));rintro _ _ ⟨rfl,rfl⟩))<;>(try simp (disch:=omega) only [push_cast,seval,Aaz,hel,decide_true]))))
  refine D7z (fun i:Nat=>mkS [(2,.ref 32 2 0),(3,.ref 48 2 0),(5,.int .i64 i)] [(32,[.rows false (IL cs) cs.length,.rows false (EL false es) es.length]),(48,[.rows false (IL cs) cs.length,.rows false (EL false es) es.length])]) (fun i=>i ≤ es.length) (fun i=>es.length - i) 0 (Nat.zero_le _) ?_ ?_
  · refine SubW.of ?_
    (refine Sub.of_lists ?_ ?_ ?_ ?_ ?_<;>simp [Vw.mkS,Vw.lk,Vw.hk,AV.inn,innL,Awz,Atz,Ayz,-List.map_set,-List.getD_eq_getElem?_getD,Aaz])
  · intro i hi
    by_cases hlt:i < es.length
    · obtain ⟨pp,b,x,y,o,he⟩:=Duz hlt
      obtain ⟨hx,hy⟩:=Fqz hb3 he
      have hil:i * 5 + 5 ≤ es.length * 5:=by omega
      have hd:=C4z false es i he
      simp only at hd
      have hxy:=And.intro hx hy
      (repeat' (first
 | (first|refine Apz ?_|refine Aiz ?_)
 | ((first|refine Aqz ?_|refine Ahz ?_|refine Ajz ?_|refine Akz ?_);simp (disch:=omega) only [push_cast,seval,l23r0,l23r1,l23r2,l23r3,l23r4,l23r5,l23r6,l23r7,l23r8,l23r9,l23r10,Aaz,hel,hil,hd,decide_true,bne_self_eq_false])
 | ((first|refine Acz ?_ ?_|refine Agz ?_ ?_|refine Afz ?_ ?_)<;>intro h<;>(try simp only [h])<;>(try simp only [bitvec_to_nat] at h)<;>(try simp only [h])<;>(first|(exfalso;omega)|(exfalso;simp_all;done)|(simp (disch:=omega) only [push_cast,seval,Aaz,hel,hil,hd,decide_true,bne_self_eq_false])|skip))
 | ((first|refine Arz false ?_|refine Anz false ?_);simp (disch:=omega) only [push_cast,seval,Aaz,hel,hil,hd,decide_true,bne_self_eq_false])
 | ((first|((first|refine Adz (Aez (Bqz _ _ _ _ ?_ ?_ ?_)) ?_|refine Abz (Aez (Bqz _ _ _ _ ?_ ?_ ?_)) ⟨_,_,rfl,rfl⟩ ?_);(iterate 3 (exact sd));rintro _ _ ⟨rfl,rfl⟩)|((first|refine Adz (Aez (Gqz _ _ _ _ _ _ _ ?_ ?_ ?_ ?_ ?_)) ?_|refine Abz (Aez (Gqz _ _ _ _ _ _ _ ?_ ?_ ?_ ?_ ?_)) ⟨_,_,rfl,rfl⟩ ?_);(iterate 5 (exact sd));rintro _ _ ⟨rfl,rfl⟩))<;>(try simp (disch:=omega) only [push_cast,seval,Aaz,hel,hil,hd,decide_true,bne_self_eq_false]))))
      refine ⟨i + 1,by omega,by omega,SubW.of ?_⟩
      (refine Sub.of_lists ?_ ?_ ?_ ?_ ?_<;>simp [Vw.mkS,Vw.lk,Vw.hk,AV.inn,innL,Awz,Atz,Ayz,-List.map_set,-List.getD_eq_getElem?_getD,Aaz])
    · have e:i=es.length:=by omega
      subst e
      (repeat' (first
 | (first|refine Apz ?_|refine Aiz ?_)
 | ((first|refine Aqz ?_|refine Ahz ?_|refine Ajz ?_|refine Akz ?_);simp (disch:=omega) only [push_cast,seval,l23r0,l23r1,l23r2,l23r3,l23r4,l23r5,l23r6,l23r7,l23r8,l23r9,l23r10,Aaz,hel,decide_true])
 | ((first|refine Acz ?_ ?_|refine Agz ?_ ?_|refine Afz ?_ ?_)<;>intro h<;>(try simp only [h])<;>(try simp only [bitvec_to_nat] at h)<;>(try simp only [h])<;>(first|(exfalso;omega)|(exfalso;simp_all;done)|(simp (disch:=omega) only [push_cast,seval,Aaz,hel,decide_true])|skip))
 | ((first|refine Arz false ?_|refine Anz false ?_);simp (disch:=omega) only [push_cast,seval,Aaz,hel,decide_true])
 | ((first|((first|refine Adz (Aez (Bqz _ _ _ _ ?_ ?_ ?_)) ?_|refine Abz (Aez (Bqz _ _ _ _ ?_ ?_ ?_)) ⟨_,_,rfl,rfl⟩ ?_);(iterate 3 (exact sd));rintro _ _ ⟨rfl,rfl⟩)|((first|refine Adz (Aez (Gqz _ _ _ _ _ _ _ ?_ ?_ ?_ ?_ ?_)) ?_|refine Abz (Aez (Gqz _ _ _ _ _ _ _ ?_ ?_ ?_ ?_ ?_)) ⟨_,_,rfl,rfl⟩ ?_);(iterate 5 (exact sd));rintro _ _ ⟨rfl,rfl⟩))<;>(try simp (disch:=omega) only [push_cast,seval,Aaz,hel,decide_true]))))
      all_goals ((refine Amz ⟨.inr rfl,_,rfl,?_⟩;try simp (disch:=omega) only [push_cast,seval]))
      all_goals (try rfl)


theorem drawRBB_ok (bs:List Int) (n:Nat) (hn:bs.length=n) (hb:n ≤ 1099511627776 ∧ ∀ x ∈ bs,0 ≤ x ∧ x ≤ 255):BCall Tryd.prog 21 [.rows false (UL bs) n] [] (fun r H'=>∃ cs es s,sbQ cs es ∧ (-1000 ≤ s ∧ s ≤ 1000) ∧ r=.tup [.agg [.own 0 cs.length 1,.own 1 es.length 5],.int .i64 s] ∧ H'=[IL cs,EL false es]):=by
  subst hn
  refine A3z (pins:=[]) (pin:=0) l21_eq rfl rfl rfl ?_
  (repeat' (first
 | (first|refine Apz ?_|refine Aiz ?_)
 | ((first|refine Aqz ?_|refine A6z (mid:=l21r8a) (post:=l21r8b) [128] Axz (by decide) ?_|refine Ahz ?_|refine Ajz ?_|refine Akz ?_);simp (disch:=omega) only [push_cast,seval,l21r0,l21r1,l21r2,l21r3,l21r4,l21r5,l21r6,l21r7,l21r8a,l21r8b,l21r8,Aaz])
 | ((first|refine Acz ?_ ?_|refine Agz ?_ ?_|refine Afz ?_ ?_)<;>intro h<;>(try simp only [h])<;>(try simp only [bitvec_to_nat] at h)<;>(try simp only [h])<;>(first|(exfalso;omega)|(exfalso;simp_all;done)|(simp (disch:=omega) only [push_cast,seval,Aaz])|skip))
 | ((first|((with_reducible refine Arz (f:=25) true ?_);simp (disch:=omega) only [push_cast,seval,Aaz];(refine Adz (F6z _ _ ?_ ?_) ?_;(iterate 2 (exact sd));rintro _ _ ⟨bs0,hbs0,rfl,rfl⟩))|((with_reducible refine Azz (f:=24) [128] true ?_);simp (disch:=omega) only [push_cast,seval,Aaz];(refine Dpz (id:=128) (K5z _ _ ?_ ?_) (by (simp (disch:=omega) only [push_cast,seval,Aaz])<;>rfl) ?_;(iterate 2 (exact sd));rintro _ _ ⟨csG,esG,pG,hsG,hpG,rfl,rfl⟩))|((with_reducible refine Azz (f:=40) [128] true ?_);simp (disch:=omega) only [push_cast,seval,Aaz];(refine Dpz (id:=128) (Dlz _ _ _ ?_ ?_) (by (simp (disch:=omega) only [push_cast,seval,Aaz])<;>rfl) ?_;(iterate 2 (exact sd));rintro _ _ ⟨x,hx0,hx1,rfl,rfl⟩))|((with_reducible refine Bxz (f:=40) [128] true ?_);simp (disch:=omega) only [push_cast,seval,Aaz];(refine Dbz (id:=128) (Dlz _ _ _ ?_ ?_) (by (simp (disch:=omega) only [push_cast,seval,Aaz])<;>rfl) (by decide) ⟨_,_,0,by omega,Or.inr (Or.inr rfl),rfl,rfl⟩ ?_;(iterate 2 (exact sd));rintro _ _ ⟨x,hx0,hx1,rfl,rfl⟩))|((with_reducible refine Azz (f:=41) (args:=[Operand.tmp 27,Operand.tmp 28]) [128,448] true ?_);simp (disch:=omega) only [push_cast,seval,Aaz];(refine Czz (id:=128) (id':=448) (by decide) (Eez _ _ _ _ ?_ ?_ ?_ ?_ ?_) (by (simp (disch:=omega) only [push_cast,seval,Aaz])<;>rfl) (by (simp (disch:=omega) only [push_cast,seval,Aaz])<;>rfl) ?_;(iterate 5 (exact sd));rintro _ _ ⟨x,hx,hx0,rfl,rfl⟩))|((with_reducible refine Azz (f:=41) [128] true ?_);simp (disch:=omega) only [push_cast,seval,Aaz];(refine Dpz (id:=128) (C8z _ _ _ _ ?_ ?_ ?_ ?_ ?_) (by (simp (disch:=omega) only [push_cast,seval,Aaz])<;>rfl) ?_;(iterate 5 (exact sd));rintro _ _ ⟨x,hx,hx0,rfl,rfl⟩))|((with_reducible refine Bxz (f:=41) [128] true ?_);simp (disch:=omega) only [push_cast,seval,Aaz];(refine Dbz (id:=128) (C8z _ _ _ _ ?_ ?_ ?_ ?_ ?_) (by (simp (disch:=omega) only [push_cast,seval,Aaz])<;>rfl) (by decide) (by simp only [Djz,Ekz];exact ⟨_,_,_,List.mem_cons_self,by omega,rfl,rfl⟩) ?_;(iterate 5 (exact sd));rintro _ _ ⟨x,hx,hx0,rfl,rfl⟩)))<;>(try simp (disch:=omega) only [push_cast,seval,Aaz]))))
  · refine D7z (fun i:Nat=>mkS [(4,.ref 128 2 0),(5,.ref 80 2 0),(6,.int .i64 i),(2,.ref 32 2 0),(3,.int .i64 0)] [(32,[.val (.slice none 0 0),.val (.slice none 0 0)]),(128,[.rows false (UL bs0) bs0.length,.int .i64 (pG + 1)]),(80,[.own 160 csG.length 1,.own 161 esG.length 5]),(160,IL csG),(161,EL false (cloL esG i))]) (fun i=>i ≤ esG.length) (fun i=>esG.length - i) 0 (Nat.zero_le _) ?_ ?_
    · refine SubW.of ?_
      rw [cloL_zero]
      (refine Sub.of_lists ?_ ?_ ?_ ?_ ?_<;>simp [Vw.mkS,Vw.lk,Vw.hk,AV.inn,innL,Awz,Atz,Ayz,-List.map_set,-List.getD_eq_getElem?_getD,Aaz])
    · intro i hi
      have hcl:(EL false (cloL esG i)).length=esG.length * 5:=by rw [A4z,cloL_length]
      by_cases hlt:i < esG.length
      · obtain ⟨pp,b,xx,yy,o,he⟩:=Duz hlt
        have hca:=cloL_at he
        have hil:i * 5 + 5 ≤ esG.length * 5:=by omega
        have hset:(EL false (cloL esG i)).set (i * 5 + 4) (.bool false)=EL false (cloL esG (i + 1)):=by rw [EL_set false _ i false hca.1,hca.2]
        (repeat' (first
 | (first|refine Apz ?_|refine Aiz ?_)
 | ((first|refine Aqz ?_|refine A6z (mid:=l21r8a) (post:=l21r8b) [128] Axz (by decide) ?_|refine Ahz ?_|refine Ajz ?_|refine Akz ?_);simp (disch:=omega) only [push_cast,seval,l21r0,l21r1,l21r2,l21r3,l21r4,l21r5,l21r6,l21r7,l21r8a,l21r8b,l21r8,Aaz,hcl,hil,hset])
 | ((first|refine Acz ?_ ?_|refine Agz ?_ ?_|refine Afz ?_ ?_)<;>intro h<;>(try simp only [h])<;>(try simp only [bitvec_to_nat] at h)<;>(try simp only [h])<;>(first|(exfalso;omega)|(exfalso;simp_all;done)|(simp (disch:=omega) only [push_cast,seval,Aaz,hcl,hil,hset])|skip))
 | ((first|((with_reducible refine Arz (f:=25) true ?_);simp (disch:=omega) only [push_cast,seval,Aaz,hcl,hil,hset];(refine Adz (F6z _ _ ?_ ?_) ?_;(iterate 2 (exact sd));rintro _ _ ⟨bs0,hbs0,rfl,rfl⟩))|((with_reducible refine Azz (f:=24) [128] true ?_);simp (disch:=omega) only [push_cast,seval,Aaz,hcl,hil,hset];(refine Dpz (id:=128) (K5z _ _ ?_ ?_) (by (simp (disch:=omega) only [push_cast,seval,Aaz,hcl,hil,hset])<;>rfl) ?_;(iterate 2 (exact sd));rintro _ _ ⟨csG,esG,pG,hsG,hpG,rfl,rfl⟩))|((with_reducible refine Azz (f:=40) [128] true ?_);simp (disch:=omega) only [push_cast,seval,Aaz,hcl,hil,hset];(refine Dpz (id:=128) (Dlz _ _ _ ?_ ?_) (by (simp (disch:=omega) only [push_cast,seval,Aaz,hcl,hil,hset])<;>rfl) ?_;(iterate 2 (exact sd));rintro _ _ ⟨x,hx0,hx1,rfl,rfl⟩))|((with_reducible refine Bxz (f:=40) [128] true ?_);simp (disch:=omega) only [push_cast,seval,Aaz,hcl,hil,hset];(refine Dbz (id:=128) (Dlz _ _ _ ?_ ?_) (by (simp (disch:=omega) only [push_cast,seval,Aaz,hcl,hil,hset])<;>rfl) (by decide) ⟨_,_,0,by omega,Or.inr (Or.inr rfl),rfl,rfl⟩ ?_;(iterate 2 (exact sd));rintro _ _ ⟨x,hx0,hx1,rfl,rfl⟩))|((with_reducible refine Azz (f:=41) (args:=[Operand.tmp 27,Operand.tmp 28]) [128,448] true ?_);simp (disch:=omega) only [push_cast,seval,Aaz,hcl,hil,hset];(refine Czz (id:=128) (id':=448) (by decide) (Eez _ _ _ _ ?_ ?_ ?_ ?_ ?_) (by (simp (disch:=omega) only [push_cast,seval,Aaz,hcl,hil,hset])<;>rfl) (by (simp (disch:=omega) only [push_cast,seval,Aaz,hcl,hil,hset])<;>rfl) ?_;(iterate 5 (exact sd));rintro _ _ ⟨x,hx,hx0,rfl,rfl⟩))|((with_reducible refine Azz (f:=41) [128] true ?_);simp (disch:=omega) only [push_cast,seval,Aaz,hcl,hil,hset];(refine Dpz (id:=128) (C8z _ _ _ _ ?_ ?_ ?_ ?_ ?_) (by (simp (disch:=omega) only [push_cast,seval,Aaz,hcl,hil,hset])<;>rfl) ?_;(iterate 5 (exact sd));rintro _ _ ⟨x,hx,hx0,rfl,rfl⟩))|((with_reducible refine Bxz (f:=41) [128] true ?_);simp (disch:=omega) only [push_cast,seval,Aaz,hcl,hil,hset];(refine Dbz (id:=128) (C8z _ _ _ _ ?_ ?_ ?_ ?_ ?_) (by (simp (disch:=omega) only [push_cast,seval,Aaz,hcl,hil,hset])<;>rfl) (by decide) (by simp only [Djz,Ekz];exact ⟨_,_,_,List.mem_cons_self,by omega,rfl,rfl⟩) ?_;(iterate 5 (exact sd));rintro _ _ ⟨x,hx,hx0,rfl,rfl⟩)))<;>(try simp (disch:=omega) only [push_cast,seval,Aaz,hcl,hil,hset]))))
        refine ⟨i + 1,by omega,by omega,SubW.of ?_⟩
        (refine Sub.of_lists ?_ ?_ ?_ ?_ ?_<;>simp [Vw.mkS,Vw.lk,Vw.hk,AV.inn,innL,Awz,Atz,Ayz,-List.map_set,-List.getD_eq_getElem?_getD,Aaz])
      · have e:i=esG.length:=by omega
        subst e
        rw [cloL_all] at hcl ⊢
        (repeat' (first
 | (first|refine Apz ?_|refine Aiz ?_)
 | ((first|refine Aqz ?_|refine A6z (mid:=l21r8a) (post:=l21r8b) [128] Axz (by decide) ?_|refine Ahz ?_|refine Ajz ?_|refine Akz ?_);simp (disch:=omega) only [push_cast,seval,l21r0,l21r1,l21r2,l21r3,l21r4,l21r5,l21r6,l21r7,l21r8a,l21r8b,l21r8,Aaz,hcl])
 | ((first|refine Acz ?_ ?_|refine Agz ?_ ?_|refine Afz ?_ ?_)<;>intro h<;>(try simp only [h])<;>(try simp only [bitvec_to_nat] at h)<;>(try simp only [h])<;>(first|(exfalso;omega)|(exfalso;simp_all;done)|(simp (disch:=omega) only [push_cast,seval,Aaz,hcl])|skip))
 | ((first|((with_reducible refine Arz (f:=25) true ?_);simp (disch:=omega) only [push_cast,seval,Aaz,hcl];(refine Adz (F6z _ _ ?_ ?_) ?_;(iterate 2 (exact sd));rintro _ _ ⟨bs0,hbs0,rfl,rfl⟩))|((with_reducible refine Azz (f:=24) [128] true ?_);simp (disch:=omega) only [push_cast,seval,Aaz,hcl];(refine Dpz (id:=128) (K5z _ _ ?_ ?_) (by (simp (disch:=omega) only [push_cast,seval,Aaz,hcl])<;>rfl) ?_;(iterate 2 (exact sd));rintro _ _ ⟨csG,esG,pG,hsG,hpG,rfl,rfl⟩))|((with_reducible refine Azz (f:=40) [128] true ?_);simp (disch:=omega) only [push_cast,seval,Aaz,hcl];(refine Dpz (id:=128) (Dlz _ _ _ ?_ ?_) (by (simp (disch:=omega) only [push_cast,seval,Aaz,hcl])<;>rfl) ?_;(iterate 2 (exact sd));rintro _ _ ⟨x,hx0,hx1,rfl,rfl⟩))|((with_reducible refine Bxz (f:=40) [128] true ?_);simp (disch:=omega) only [push_cast,seval,Aaz,hcl];(refine Dbz (id:=128) (Dlz _ _ _ ?_ ?_) (by (simp (disch:=omega) only [push_cast,seval,Aaz,hcl])<;>rfl) (by decide) ⟨_,_,0,by omega,Or.inr (Or.inr rfl),rfl,rfl⟩ ?_;(iterate 2 (exact sd));rintro _ _ ⟨x,hx0,hx1,rfl,rfl⟩))|((with_reducible refine Azz (f:=41) (args:=[Operand.tmp 27,Operand.tmp 28]) [128,448] true ?_);simp (disch:=omega) only [push_cast,seval,Aaz,hcl];(refine Czz (id:=128) (id':=448) (by decide) (Eez _ _ _ _ ?_ ?_ ?_ ?_ ?_) (by (simp (disch:=omega) only [push_cast,seval,Aaz,hcl])<;>rfl) (by (simp (disch:=omega) only [push_cast,seval,Aaz,hcl])<;>rfl) ?_;(iterate 5 (exact sd));rintro _ _ ⟨x,hx,hx0,rfl,rfl⟩))|((with_reducible refine Azz (f:=41) [128] true ?_);simp (disch:=omega) only [push_cast,seval,Aaz,hcl];(refine Dpz (id:=128) (C8z _ _ _ _ ?_ ?_ ?_ ?_ ?_) (by (simp (disch:=omega) only [push_cast,seval,Aaz,hcl])<;>rfl) ?_;(iterate 5 (exact sd));rintro _ _ ⟨x,hx,hx0,rfl,rfl⟩))|((with_reducible refine Bxz (f:=41) [128] true ?_);simp (disch:=omega) only [push_cast,seval,Aaz,hcl];(refine Dbz (id:=128) (C8z _ _ _ _ ?_ ?_ ?_ ?_ ?_) (by (simp (disch:=omega) only [push_cast,seval,Aaz,hcl])<;>rfl) (by decide) (by simp only [Djz,Ekz];exact ⟨_,_,_,List.mem_cons_self,by omega,rfl,rfl⟩) ?_;(iterate 5 (exact sd));rintro _ _ ⟨x,hx,hx0,rfl,rfl⟩)))<;>(try simp (disch:=omega) only [push_cast,seval,Aaz,hcl]))))
        (refine Amz ⟨.inr rfl,[160,161],[],_,by decide,rfl,?_⟩;(try simp (disch:=omega) only [push_cast,seval,↓Aoz,↓Alz,↓List.map_cons,↓List.map_nil,Aaz]))
        refine ⟨csG,esG.map cloE,x,sbQ_of ⟨hsG.1,by rw [List.length_map];exact hsG.2.1,exB_clo hsG.2.2⟩,hx0,?_,rfl⟩
        rw [List.length_map]
  · (refine Amz ⟨.inr rfl,[160,161],[],_,by decide,rfl,?_⟩;(try simp (disch:=omega) only [push_cast,seval,↓Aoz,↓Alz,↓List.map_cons,↓List.map_nil,Aaz]))
    exact ⟨csG,esG,x,sbQ_of hsG,hx0,rfl,rfl⟩
theorem Fgz (bs:List Int) (n:Nat) (hn:bs.length=n) (hb:n ≤ 1099511627776 ∧ ∀ x ∈ bs,0 ≤ x ∧ x ≤ 255):PCall Tryd.prog 21 [.rows false (UL bs) n] (fun r=>∃ cs es s,sbQ cs es ∧ rbQ cs es s ∧ r=.tup [.agg [.rows true (IL cs) cs.length,.rows true (EL false es) es.length],.int .i64 s]):=by
  refine (BCall.plain (drawRBB_ok bs n hn hb)).mono ?_
  rintro r ⟨r0,H',⟨cs,es,s,h,hs,rfl,rfl⟩,rfl⟩
  refine ⟨cs,es,s,h,⟨rz_bnd h hs,Kez cs es,hs⟩,?_⟩
  simp [AV.ren,nthH,I9z,A4z]


set_option maxHeartbeats 32000000 in
theorem lRBf_ok (bs:List Int) (hn:bs.length ≤ 9223372036854775807) (hb:∀ x ∈ bs,0 ≤ x ∧ x ≤ 255):PCall Tryd.prog 6 [.rows false (UL bs) bs.length] (fun r=>r=.bool true):=by
  refine A5z l6_eq rfl ?_
  by_cases h:bs.length ≤ 1048576
  · have q:bs.length ≤ 1099511627776 ∧ ∀ x ∈ bs,0 ≤ x ∧ x ≤ 255:=⟨by omega,hb⟩
    (repeat' (first
 | (first|refine Apz ?_|refine Aiz ?_)
 | ((first|refine Aqz ?_|refine Asz (mid:=l6r11a) (post:=l6r11b) Axz (by decide) ?_|refine Ahz ?_|refine Ajz ?_|refine Akz ?_);simp (disch:=omega) only [push_cast,seval,l6r0,l6r1,l6r2,l6r3,l6r4,l6r5,l6r6,l6r7,l6r8,l6r9,l6r10,l6r11a,l6r11b,l6r11,Aaz,bne_self_eq_false])
 | ((first|refine Acz ?_ ?_|refine Agz ?_ ?_|refine Afz ?_ ?_)<;>intro h<;>(try simp only [h])<;>(try simp only [bitvec_to_nat] at h)<;>(try simp only [h])<;>(first|(exfalso;omega)|(exfalso;simp_all;done)|(simp (disch:=omega) only [push_cast,seval,Aaz,bne_self_eq_false])|skip))
 | ((first|((with_reducible refine Arz (f:=21) true ?_);simp (disch:=omega) only [push_cast,seval,Aaz,bne_self_eq_false];(refine Adz (Aez (Fgz _ _ ?_ ?_)) ?_;(iterate 2 (exact sd));rintro _ _ ⟨⟨cs,es,s,⟨hs1,hs2,hs3,hs4,hs5⟩,⟨hsr,hol,hsb⟩,rfl⟩,rfl⟩))|((with_reducible refine Anz (f:=21) true ?_);simp (disch:=omega) only [push_cast,seval,Aaz,bne_self_eq_false];(refine Abz (Aez (Fgz _ _ ?_ ?_)) ⟨_,_,rfl,rfl⟩ ?_;(iterate 2 (exact sd));rintro _ _ ⟨⟨cs,es,s,⟨hs1,hs2,hs3,hs4,hs5⟩,⟨hsr,hol,hsb⟩,rfl⟩,rfl⟩)))<;>(try simp (disch:=omega) only [push_cast,seval,Aaz,bne_self_eq_false]))
 | ((first|refine Arz false ?_|refine Anz false ?_);simp (disch:=omega) only [push_cast,seval,Aaz,bne_self_eq_false])
 | ((first|((first|refine Adz (Aez (Iez _ _ _ _ _ ?_ ?_ ?_)) ?_|refine Abz (Aez (Iez _ _ _ _ _ ?_ ?_ ?_)) ⟨_,_,rfl,rfl⟩ ?_);(iterate 3 (exact sd));rintro _ _ ⟨rfl,rfl⟩)|((first|refine Adz (Aez (H9z _ _ _ _ _ ?_ ?_ ?_)) ?_|refine Abz (Aez (H9z _ _ _ _ _ ?_ ?_ ?_)) ⟨_,_,rfl,rfl⟩ ?_);(iterate 3 (exact sd));rintro _ _ ⟨rfl,rfl⟩)|((first|refine Adz (Aez (Ffz _ _ _ _ _ _ ?_ ?_ ?_ ?_ ?_)) ?_|refine Abz (Aez (Ffz _ _ _ _ _ _ ?_ ?_ ?_ ?_ ?_)) ⟨_,_,rfl,rfl⟩ ?_);(iterate 5 (exact sd));rintro _ _ ⟨rfl,rfl⟩)|((first|refine Adz (Aez (B8z _ _ _ _ ?_ ?_ ?_)) ?_|refine Abz (Aez (B8z _ _ _ _ ?_ ?_ ?_)) ⟨_,_,rfl,rfl⟩ ?_);(iterate 3 (exact sd));rintro _ _ ⟨rfl,rfl⟩)|((first|refine Adz (Aez (Idz _ _ ?_ ?_)) ?_|refine Abz (Aez (Idz _ _ ?_ ?_)) ⟨_,_,rfl,rfl⟩ ?_);(iterate 2 (exact sd));rintro _ _ ⟨rfl,rfl⟩)|((first|refine Adz (Aez (Fdz _ _ _ _ ?_ ?_ ?_)) ?_|refine Abz (Aez (Fdz _ _ _ _ ?_ ?_ ?_)) ⟨_,_,rfl,rfl⟩ ?_);(iterate 3 (exact sd));rintro _ _ ⟨rfl,rfl⟩)|((first|refine Adz (Aez (Bqz _ _ _ _ ?_ ?_ ?_)) ?_|refine Abz (Aez (Bqz _ _ _ _ ?_ ?_ ?_)) ⟨_,_,rfl,rfl⟩ ?_);(iterate 3 (exact sd));rintro _ _ ⟨rfl,rfl⟩))<;>(try simp (disch:=omega) only [push_cast,seval,Aaz,bne_self_eq_false]))))
    · (refine Amz ⟨.inr rfl,_,rfl,?_⟩;try simp (disch:=omega) only [push_cast,seval,beq_self_eq_true])
      all_goals (try simp)
    · (refine Amz ⟨.inr rfl,_,rfl,?_⟩;try simp (disch:=omega) only [push_cast,seval])
      exact congrArg AV.bool (decide_eq_true (rz_no (by assumption) (by assumption) h))
    · obtain ⟨N,rfl,hN,ho,hvz⟩:=rz_yes (cs:=cs) (es:=es) (s:=s) (by assumption)
      have hzl:=Ftz cs N
      have hmin:min (N:Int) (cs.length:Int)=((min N cs.length:Nat):Int):=by omega
      have hk1:min N cs.length ≤ N:=Nat.min_le_left _ _
      have hk2:min N cs.length ≤ cs.length:=Nat.min_le_right _ _
      simp only [hmin,Cbz,Int.toNat_natCast]
      generalize min N cs.length=k at *
      have hzt:=zz_take hk1 hk2
      have q5:(zz cs N).length ≤ 1099511627776 ∧ es.length ≤ 1099511627776 ∧ exB 1099511627776 es:=⟨by omega,hs1.2.1,hs1.2.2⟩
      have hif1:(if 0 ≤ (k:Int) ∧ (k:Int) ≤ ((zz cs N).length:Int) then some k else none)=some k:=if_pos (by omega)
      have hif2:(if 0 ≤ (k:Int) ∧ (k:Int) ≤ (cs.length:Int) then some k else none)=some k:=if_pos (by omega)
      simp (disch:=omega) only [hif1,hif2,push_cast,seval,I6z,Ijz]
      simp only [Nat.sub_zero,← List.map_take,hzt]
      have hkl:(cs.take k).length=k:=by rw [List.length_take];omega
      have q6:k ≤ 1099511627776 ∧ k ≤ 1099511627776:=⟨by omega,by omega⟩
      (repeat' (first
 | (first|refine Apz ?_|refine Aiz ?_)
 | ((first|refine Aqz ?_|refine Asz (mid:=l6r11a) (post:=l6r11b) Axz (by decide) ?_|refine Ahz ?_|refine Ajz ?_|refine Akz ?_);simp (disch:=omega) only [push_cast,seval,l6r0,l6r1,l6r2,l6r3,l6r4,l6r5,l6r6,l6r7,l6r8,l6r9,l6r10,l6r11a,l6r11b,l6r11,Aaz,ho,Cbz,hif1,hif2,Int.toNat_natCast,hvz,hzt,decide_true])
 | ((first|refine Acz ?_ ?_|refine Agz ?_ ?_|refine Afz ?_ ?_)<;>intro h<;>(try simp only [h])<;>(try simp only [bitvec_to_nat] at h)<;>(try simp only [h])<;>(first|(exfalso;omega)|(exfalso;simp_all;done)|(simp (disch:=omega) only [push_cast,seval,Aaz,ho,Cbz,hif1,hif2,Int.toNat_natCast,hvz,hzt,decide_true])|skip))
 | ((first|((with_reducible refine Arz (f:=21) true ?_);simp (disch:=omega) only [push_cast,seval,Aaz,ho,Cbz,hif1,hif2,Int.toNat_natCast,hvz,hzt,decide_true];(refine Adz (Aez (Fgz _ _ ?_ ?_)) ?_;(iterate 2 (exact sd));rintro _ _ ⟨⟨cs,es,s,⟨hs1,hs2,hs3,hs4,hs5⟩,⟨hsr,hol,hsb⟩,rfl⟩,rfl⟩))|((with_reducible refine Anz (f:=21) true ?_);simp (disch:=omega) only [push_cast,seval,Aaz,ho,Cbz,hif1,hif2,Int.toNat_natCast,hvz,hzt,decide_true];(refine Abz (Aez (Fgz _ _ ?_ ?_)) ⟨_,_,rfl,rfl⟩ ?_;(iterate 2 (exact sd));rintro _ _ ⟨⟨cs,es,s,⟨hs1,hs2,hs3,hs4,hs5⟩,⟨hsr,hol,hsb⟩,rfl⟩,rfl⟩)))<;>(try simp (disch:=omega) only [push_cast,seval,Aaz,ho,Cbz,hif1,hif2,Int.toNat_natCast,hvz,hzt,decide_true]))
 | ((first|refine Arz false ?_|refine Anz false ?_);simp (disch:=omega) only [push_cast,seval,Aaz,ho,Cbz,hif1,hif2,Int.toNat_natCast,hvz,hzt,decide_true])
 | ((first|((first|refine Adz (Aez (Iez _ _ _ _ _ ?_ ?_ ?_)) ?_|refine Abz (Aez (Iez _ _ _ _ _ ?_ ?_ ?_)) ⟨_,_,rfl,rfl⟩ ?_);(iterate 3 (exact sd));rintro _ _ ⟨rfl,rfl⟩)|((first|refine Adz (Aez (H9z _ _ _ _ _ ?_ ?_ ?_)) ?_|refine Abz (Aez (H9z _ _ _ _ _ ?_ ?_ ?_)) ⟨_,_,rfl,rfl⟩ ?_);(iterate 3 (exact sd));rintro _ _ ⟨rfl,rfl⟩)|((first|refine Adz (Aez (Ffz _ _ _ _ _ _ ?_ ?_ ?_ ?_ ?_)) ?_|refine Abz (Aez (Ffz _ _ _ _ _ _ ?_ ?_ ?_ ?_ ?_)) ⟨_,_,rfl,rfl⟩ ?_);(iterate 5 (exact sd));rintro _ _ ⟨rfl,rfl⟩)|((first|refine Adz (Aez (B8z _ _ _ _ ?_ ?_ ?_)) ?_|refine Abz (Aez (B8z _ _ _ _ ?_ ?_ ?_)) ⟨_,_,rfl,rfl⟩ ?_);(iterate 3 (exact sd));rintro _ _ ⟨rfl,rfl⟩)|((first|refine Adz (Aez (Idz _ _ ?_ ?_)) ?_|refine Abz (Aez (Idz _ _ ?_ ?_)) ⟨_,_,rfl,rfl⟩ ?_);(iterate 2 (exact sd));rintro _ _ ⟨rfl,rfl⟩)|((first|refine Adz (Aez (Fdz _ _ _ _ ?_ ?_ ?_)) ?_|refine Abz (Aez (Fdz _ _ _ _ ?_ ?_ ?_)) ⟨_,_,rfl,rfl⟩ ?_);(iterate 3 (exact sd));rintro _ _ ⟨rfl,rfl⟩)|((first|refine Adz (Aez (Bqz _ _ _ _ ?_ ?_ ?_)) ?_|refine Abz (Aez (Bqz _ _ _ _ ?_ ?_ ?_)) ⟨_,_,rfl,rfl⟩ ?_);(iterate 3 (exact sd));rintro _ _ ⟨rfl,rfl⟩))<;>(try simp (disch:=omega) only [push_cast,seval,Aaz,ho,Cbz,hif1,hif2,Int.toNat_natCast,hvz,hzt,decide_true]))))
      all_goals ((refine Amz ⟨.inr rfl,_,rfl,?_⟩;try simp (disch:=omega) only [push_cast,seval]))
      all_goals (try rfl)
    · obtain ⟨N,rfl,hN,ho,hvz⟩:=rz_yes (cs:=cs) (es:=es) (s:=s) (by assumption)
      omega
    all_goals ((refine Amz ⟨.inr rfl,_,rfl,?_⟩;try simp (disch:=omega) only [push_cast,seval,beq_self_eq_true]))
    all_goals (try simp)
  · (repeat' (first
 | (first|refine Apz ?_|refine Aiz ?_)
 | ((first|refine Aqz ?_|refine Asz (mid:=l6r11a) (post:=l6r11b) Axz (by decide) ?_|refine Ahz ?_|refine Ajz ?_|refine Akz ?_);simp (disch:=omega) only [push_cast,seval,l6r0,l6r1,l6r2,l6r3,l6r4,l6r5,l6r6,l6r7,l6r8,l6r9,l6r10,l6r11a,l6r11b,l6r11,Aaz])
 | ((first|refine Acz ?_ ?_|refine Agz ?_ ?_|refine Afz ?_ ?_)<;>intro h<;>(try simp only [h])<;>(try simp only [bitvec_to_nat] at h)<;>(try simp only [h])<;>(first|(exfalso;omega)|(exfalso;simp_all;done)|(simp (disch:=omega) only [push_cast,seval,Aaz])|skip))
 | ((first|((with_reducible refine Arz (f:=21) true ?_);simp (disch:=omega) only [push_cast,seval,Aaz];(refine Adz (Aez (Fgz _ _ ?_ ?_)) ?_;(iterate 2 (exact sd));rintro _ _ ⟨⟨cs,es,s,⟨hs1,hs2,hs3,hs4,hs5⟩,⟨hsr,hol,hsb⟩,rfl⟩,rfl⟩))|((with_reducible refine Anz (f:=21) true ?_);simp (disch:=omega) only [push_cast,seval,Aaz];(refine Abz (Aez (Fgz _ _ ?_ ?_)) ⟨_,_,rfl,rfl⟩ ?_;(iterate 2 (exact sd));rintro _ _ ⟨⟨cs,es,s,⟨hs1,hs2,hs3,hs4,hs5⟩,⟨hsr,hol,hsb⟩,rfl⟩,rfl⟩)))<;>(try simp (disch:=omega) only [push_cast,seval,Aaz]))
 | ((first|refine Arz false ?_|refine Anz false ?_);simp (disch:=omega) only [push_cast,seval,Aaz])
 | ((first|((first|refine Adz (Aez (Iez _ _ _ _ _ ?_ ?_ ?_)) ?_|refine Abz (Aez (Iez _ _ _ _ _ ?_ ?_ ?_)) ⟨_,_,rfl,rfl⟩ ?_);(iterate 3 (exact sd));rintro _ _ ⟨rfl,rfl⟩)|((first|refine Adz (Aez (H9z _ _ _ _ _ ?_ ?_ ?_)) ?_|refine Abz (Aez (H9z _ _ _ _ _ ?_ ?_ ?_)) ⟨_,_,rfl,rfl⟩ ?_);(iterate 3 (exact sd));rintro _ _ ⟨rfl,rfl⟩)|((first|refine Adz (Aez (Ffz _ _ _ _ _ _ ?_ ?_ ?_ ?_ ?_)) ?_|refine Abz (Aez (Ffz _ _ _ _ _ _ ?_ ?_ ?_ ?_ ?_)) ⟨_,_,rfl,rfl⟩ ?_);(iterate 5 (exact sd));rintro _ _ ⟨rfl,rfl⟩)|((first|refine Adz (Aez (B8z _ _ _ _ ?_ ?_ ?_)) ?_|refine Abz (Aez (B8z _ _ _ _ ?_ ?_ ?_)) ⟨_,_,rfl,rfl⟩ ?_);(iterate 3 (exact sd));rintro _ _ ⟨rfl,rfl⟩)|((first|refine Adz (Aez (Idz _ _ ?_ ?_)) ?_|refine Abz (Aez (Idz _ _ ?_ ?_)) ⟨_,_,rfl,rfl⟩ ?_);(iterate 2 (exact sd));rintro _ _ ⟨rfl,rfl⟩)|((first|refine Adz (Aez (Fdz _ _ _ _ ?_ ?_ ?_)) ?_|refine Abz (Aez (Fdz _ _ _ _ ?_ ?_ ?_)) ⟨_,_,rfl,rfl⟩ ?_);(iterate 3 (exact sd));rintro _ _ ⟨rfl,rfl⟩)|((first|refine Adz (Aez (Bqz _ _ _ _ ?_ ?_ ?_)) ?_|refine Abz (Aez (Bqz _ _ _ _ ?_ ?_ ?_)) ⟨_,_,rfl,rfl⟩ ?_);(iterate 3 (exact sd));rintro _ _ ⟨rfl,rfl⟩))<;>(try simp (disch:=omega) only [push_cast,seval,Aaz]))
 | (refine Amz ⟨.inr rfl,_,rfl,?_⟩;(try simp (disch:=omega) only [push_cast,seval,Aaz]))))

end Go.Proofs.YtkpcjppnjmhanaaDoor
