/- Texts of this verifier. -/
import Derived.Test.YtkpcjppnjmhanaaDoorCB10
import Derived.Test.YtkpcjppnjmhanaaDoorCM1
import Derived.Test.YtkpcjppnjmhanaaDoorCW3
set_option maxHeartbeats 4000000
set_option linter.unusedSimpArgs false
set_option linter.unusedSectionVars false
set_option linter.unusedVariables false
set_option maxRecDepth 4000
namespace Go.Proofs.YtkpcjppnjmhanaaDoor
open VwM Vw Go
variable [SentA]



theorem done6_ok (cs:List Int) (es:List Ex) (m n:Nat) (a:Int) (hm:cs.length=m) (hn:es.length=n) (hv:vB cs es=true) :
    BCall Tryd.prog 68 [.agg [.own 0 m 1,.own 1 n 5],.agg [.int .i64 6,.own 2 1 1]] [IL cs,EL false es,[.int .i64 a]] (fun r H'=>r=.tup [.agg [.own 0 m 1,.own 1 n 5],.bool (opA es a)] ∧ H'=[IL cs,EL false es,[.int .i64 a]]):=by
  subst hm hn
  have hel:=A4z false es
  have hb2:cs.length ≤ 1099511627776 ∧ es.length ≤ 1099511627776:=⟨(vB_x hv).1,(vB_x hv).2.1⟩
  refine A3z (pins:=[0,1,2]) (pin:=3) l68_eq rfl rfl rfl ?_
  (repeat' (first
 | (first|refine Apz ?_|refine Aiz ?_)
 | ((first|refine Aqz ?_|refine Asz (mid:=l68r4a) (post:=l68r4b) Axz (by decide) ?_|refine Asz (mid:=l68r6a) (post:=l68r6b) Axz (by decide) ?_|refine Asz (mid:=l68r8a) (post:=l68r8b) Axz (by decide) ?_|refine Asz (mid:=l68r10a) (post:=l68r10b) Axz (by decide) ?_|refine Asz (mid:=l68r12a) (post:=l68r12b) Axz (by decide) ?_|refine Asz (mid:=l68r14a) (post:=l68r14b) Axz (by decide) ?_|refine Asz (mid:=l68r16a) (post:=l68r16b) Axz (by decide) ?_|refine Asz (mid:=l68r17a) (post:=l68r17b) Axz (by decide) ?_|refine Ahz ?_|refine Ajz ?_|refine Akz ?_);simp (disch:=omega) only [push_cast,seval,l68r0,l68r1,l68r2,l68r3,l68r4a,l68r4b,l68r4,l68r5,l68r6a,l68r6b,l68r6,l68r7,l68r8a,l68r8b,l68r8,l68r9,l68r10a,l68r10b,l68r10,l68r11,l68r12a,l68r12b,l68r12,l68r13,l68r14a,l68r14b,l68r14,l68r15,l68r16a,l68r16b,l68r16,l68r17a,l68r17b,l68r17,hel,Aaz])
 | ((first|refine Acz ?_ ?_|refine Agz ?_ ?_|refine Afz ?_ ?_)<;>intro h<;>(try simp only [h])<;>(try simp only [bitvec_to_nat] at h)<;>(try simp only [h])<;>(first|(exfalso;omega)|(exfalso;simp_all;done)|(simp (disch:=omega) only [push_cast,seval,hel,Aaz])|skip))
 | ((first|refine Arz false ?_|refine Anz false ?_);simp (disch:=omega) only [push_cast,seval,hel,Aaz])
 | ((first|((first|refine Adz (Ecz _ _ _ _ _ ?_ ?_ ?_) ?_|refine Abz (Ecz _ _ _ _ _ ?_ ?_ ?_) ⟨_,_,false,[],[],(fun h=>by cases h),⟨Nat.zero_le _,Nat.zero_le _,fun e he=>by cases he⟩,rfl,rfl⟩ ?_);(iterate 3 (exact sd));rintro _ _ ⟨ok,cs',es',hok,hbd,rfl,rfl⟩)|((first|refine Adz (Efz _ _ _ _ _ _ _ ?_ ?_ ?_) ?_|refine Abz (Efz _ _ _ _ _ _ _ ?_ ?_ ?_) ⟨_,_,false,[],[],(fun h=>by cases h),⟨Nat.zero_le _,Nat.zero_le _,fun e he=>by cases he⟩,rfl,rfl⟩ ?_);(iterate 3 (exact sd));rintro _ _ ⟨ok,cs',es',hok,hbd,rfl,rfl⟩)|((first|refine Adz (Egz _ _ _ _ _ _ _ _ _ _ _ ?_ ?_ ?_) ?_|refine Abz (Egz _ _ _ _ _ _ _ _ _ _ _ ?_ ?_ ?_) ⟨_,_,false,[],[],(fun h=>by cases h),⟨Nat.zero_le _,Nat.zero_le _,fun e he=>by cases he⟩,rfl,rfl⟩ ?_);(iterate 3 (exact sd));rintro _ _ ⟨ok,cs',es',hok,hbd,rfl,rfl⟩)|((first|refine Adz (Eaz _ _ _ _ _ _ ?_ ?_ ?_) ?_|refine Abz (Eaz _ _ _ _ _ _ ?_ ?_ ?_) ⟨_,_,false,[],[],(fun h=>by cases h),⟨Nat.zero_le _,Nat.zero_le _,fun e he=>by cases he⟩,rfl,rfl⟩ ?_);(iterate 3 (exact sd));rintro _ _ ⟨ok,cs',es',hok,hbd,rfl,rfl⟩)|((first|refine Adz (Ebz _ _ _ _ _ _ ?_ ?_ ?_) ?_|refine Abz (Ebz _ _ _ _ _ _ ?_ ?_ ?_) ⟨_,_,false,[],[],(fun h=>by cases h),⟨Nat.zero_le _,Nat.zero_le _,fun e he=>by cases he⟩,rfl,rfl⟩ ?_);(iterate 3 (exact sd));rintro _ _ ⟨ok,cs',es',hok,hbd,rfl,rfl⟩)|((first|refine Adz (Edz _ _ _ _ _ ?_ ?_ ?_) ?_|refine Abz (Edz _ _ _ _ _ ?_ ?_ ?_) ⟨_,_,false,[],[],(fun h=>by cases h),⟨Nat.zero_le _,Nat.zero_le _,fun e he=>by cases he⟩,rfl,rfl⟩ ?_);(iterate 3 (exact sd));rintro _ _ ⟨ok,cs',es',hok,hbd,rfl,rfl⟩)|((first|refine Adz (Aez (Bfz _ _ _ _ _ ?_ ?_ ?_)) ?_|refine Abz (Aez (Bfz _ _ _ _ _ ?_ ?_ ?_)) ⟨_,_,rfl,rfl⟩ ?_);(iterate 3 (exact sd));rintro _ _ ⟨rfl,rfl⟩))<;>(try simp (disch:=omega) only [push_cast,seval,hel,Aaz]))
 | (refine Amz ⟨.inr rfl,[],[],_,by decide,rfl,?_⟩;(try simp (disch:=omega) only [push_cast,seval,↓Aoz,↓Alz,↓List.map_cons,↓List.map_nil,hel,Aaz]))))
  all_goals skip


abbrev OBa (cs:List Int) (es:List Ex) (nums:List Int) (m n:Nat):AV → List (List AV) → Prop:=fun r H'=>(∃ s,r=.tup [.agg [.own 0 m 1,.own 1 n 5],.str s] ∧ H'=[IL cs,EL false es,IL nums]) ∨ ∃ cs' es' s,vB cs' es'=true ∧ r=.tup [.agg [.own 3 cs'.length 1,.own 4 es'.length 5],.str s] ∧ H'=[IL cs,EL false es,IL nums,IL cs',EL true es']


set_option maxHeartbeats 16000000 in
theorem apply6_ok (cs:List Int) (es:List Ex) (a:Int) (hv:vB cs es=true) :
    BCall Tryd.prog 59 [.agg [.own 0 cs.length 1,.own 1 es.length 5],.agg [.int .i64 6,.own 2 1 1]] [IL cs,EL false es,[.int .i64 a]] (OBa cs es [a] cs.length es.length):=by
  have hel:=A4z false es
  have hbb:=J9z hv
  refine A3z (pins:=[0,1,2]) (pin:=3) l59_eq rfl rfl rfl ?_
  cases ho:opA es a with
  | false =>
    (repeat' (first
 | (first|refine Apz ?_|refine Aiz ?_)
 | ((first|refine Aqz ?_|refine A6z (mid:=l59r5a) (post:=l59r5b) [64] Axz (by decide) ?_|refine A6z (mid:=l59r7a) (post:=l59r7b) [64] Axz (by decide) ?_|refine Ahz ?_|refine Ajz ?_|refine Akz ?_);simp (disch:=omega) only [push_cast,seval,l59r0,l59r1,l59r2,l59r3,l59r4,l59r5a,l59r5b,l59r5,l59r6,l59r7a,l59r7b,l59r7,l59r8,ho,hel,Aaz])
 | ((first|refine Acz ?_ ?_|refine Agz ?_ ?_|refine Afz ?_ ?_)<;>intro h<;>(try simp only [h])<;>(try simp only [bitvec_to_nat] at h)<;>(try simp only [h])<;>(first|(exfalso;omega)|(exfalso;simp_all;done)|(simp (disch:=omega) only [push_cast,seval,ho,hel,Aaz])|skip))
 | ((first|((with_reducible refine Azz (f:=68) [0,1,2] true ?_);simp (disch:=omega) only [push_cast,seval,ho,hel,Aaz];(refine G0z (by decide) (done6_ok _ _ _ _ _ ?_ ?_ ?_) (by (simp (disch:=omega) only [push_cast,seval,ho,hel,Aaz])<;>rfl) ?_;(iterate 3 (exact sd));rintro _ _ ⟨rfl,rfl⟩)))<;>(try simp (disch:=omega) only [push_cast,seval,ho,hel,Aaz]))
 | ((first|refine Arz false ?_|refine Anz false ?_);simp (disch:=omega) only [push_cast,seval,ho,hel,Aaz])
 | ((first|((first|refine Adz (Cnz _ _ _ _ _ _ _ ?_ ?_ ?_ ?_) ?_|refine Abz (Cnz _ _ _ _ _ _ _ ?_ ?_ ?_ ?_) ⟨_,_,rfl,rfl⟩ ?_);(iterate 4 (exact sd));rintro _ _ ⟨rfl,rfl⟩)|((first|refine Adz (Aez (D9z _ _ ?_ ?_)) ?_|refine Abz (Aez (D9z _ _ ?_ ?_)) ⟨.str ByteArray.empty,[],⟨ByteArray.empty,Nat.zero_le _,rfl⟩,rfl⟩ ?_);(iterate 2 (exact sd));rintro _ _ ⟨⟨st,hst,rfl⟩,rfl⟩)|((first|refine Adz (Aez (A9z _ ?_)) ?_|refine Abz (Aez (A9z _ ?_)) ⟨.str ByteArray.empty,[],⟨ByteArray.empty,Nat.zero_le _,rfl⟩,rfl⟩ ?_);(exact sd);rintro _ _ ⟨⟨sn,hsn,rfl⟩,rfl⟩)|((first|refine Adz (Aez (Bez _ ?_)) ?_|refine Abz (Aez (Bez _ ?_)) ⟨.str ByteArray.empty,[],⟨ByteArray.empty,Nat.zero_le _,rfl⟩,rfl⟩ ?_);(exact sd);rintro _ _ ⟨⟨sn,hsn,rfl⟩,rfl⟩)|((first|refine Adz (Aez (Blz _ ?_)) ?_|refine Abz (Aez (Blz _ ?_)) ⟨.str ByteArray.empty,[],⟨ByteArray.empty,Nat.zero_le _,rfl⟩,rfl⟩ ?_);(exact sd);rintro _ _ ⟨⟨sn,hsn,rfl⟩,rfl⟩))<;>(try simp (disch:=omega) only [push_cast,seval,ho,hel,Aaz]))
 | (refine Amz ⟨.inr rfl,[],[],_,by decide,rfl,?_⟩;(try simp (disch:=omega) only [push_cast,seval,↓Aoz,↓Alz,↓List.map_cons,↓List.map_nil,ho,hel,Aaz]))))
    all_goals exact .inl ⟨_,rfl,rfl⟩
  | true =>
    obtain ⟨q,p,b,x,y,rfl,hq,he,hvw⟩:=Ioz ho
    have hs:=vB_see hv he
    have hil:q * 5 + 5 ≤ es.length * 5:=by omega
    have h3:=Lyz he
    have hi:=(see_prX hs).1
    have htl:(takesL cs (offs b x y)).length=(offs b x y).length:=Fjz ..
    have htb:=I5z (L:=offs b x y) (D2z.1 (Gvz.1 hv).1).2
    have hq5:(takesL cs (offs b x y)).length ≤ 100 ∧ ∀ v ∈ takesL cs (offs b x y),0 ≤ v ∧ v < 1000:=⟨by omega,fun v hv=>by have:=htb v hv;omega⟩
    have h3s:({ data:={ toList:=[104,97,115] } }:ByteArray).size=3:=rfl
    (repeat' (first
 | (first|refine Apz ?_|refine Aiz ?_)
 | ((first|refine Aqz ?_|refine A6z (mid:=l59r5a) (post:=l59r5b) [64] Axz (by decide) ?_|refine A6z (mid:=l59r7a) (post:=l59r7b) [64] Axz (by decide) ?_|refine Ahz ?_|refine Ajz ?_|refine Akz ?_);simp (disch:=omega) only [push_cast,seval,l59r0,l59r1,l59r2,l59r3,l59r4,l59r5a,l59r5b,l59r5,l59r6,l59r7a,l59r7b,l59r7,l59r8,ho,hel,hil,h3,Aaz])
 | ((first|refine Acz ?_ ?_|refine Agz ?_ ?_|refine Afz ?_ ?_)<;>intro h<;>(try simp only [h])<;>(try simp only [bitvec_to_nat] at h)<;>(try simp only [h])<;>(first|(exfalso;omega)|(exfalso;simp_all;done)|(simp (disch:=omega) only [push_cast,seval,ho,hel,hil,h3,Aaz])|skip))
 | ((first|((with_reducible refine Azz (f:=68) [0,1,2] true ?_);simp (disch:=omega) only [push_cast,seval,ho,hel,hil,h3,Aaz];(refine G0z (by decide) (done6_ok _ _ _ _ _ ?_ ?_ ?_) (by (simp (disch:=omega) only [push_cast,seval,ho,hel,hil,h3,Aaz])<;>rfl) ?_;(iterate 3 (exact sd));rintro _ _ ⟨rfl,rfl⟩)))<;>(try simp (disch:=omega) only [push_cast,seval,ho,hel,hil,h3,Aaz]))
 | ((first|refine Arz false ?_|refine Anz false ?_);simp (disch:=omega) only [push_cast,seval,ho,hel,hil,h3,Aaz])
 | ((first|((first|refine Adz (Cnz _ _ _ _ _ _ _ ?_ ?_ ?_ ?_) ?_|refine Abz (Aez (Gxz (Cnz _ _ _ _ _ _ _ ?_ ?_ ?_ ?_))) ⟨_,_,rfl,rfl⟩ ?_);(iterate 4 (exact sd));rintro _ _ ⟨rfl,rfl⟩)|((first|refine Adz (Aez (D9z _ _ ?_ ?_)) ?_|refine Abz (Aez (D9z _ _ ?_ ?_)) ⟨.str ByteArray.empty,[],⟨ByteArray.empty,Nat.zero_le _,rfl⟩,rfl⟩ ?_);(iterate 2 (exact sd));rintro _ _ ⟨⟨st,hst,rfl⟩,rfl⟩)|((first|refine Adz (Aez (A9z _ ?_)) ?_|refine Abz (Aez (A9z _ ?_)) ⟨.str ByteArray.empty,[],⟨ByteArray.empty,Nat.zero_le _,rfl⟩,rfl⟩ ?_);(exact sd);rintro _ _ ⟨⟨sn,hsn,rfl⟩,rfl⟩)|((first|refine Adz (Aez (Bez _ ?_)) ?_|refine Abz (Aez (Bez _ ?_)) ⟨.str ByteArray.empty,[],⟨ByteArray.empty,Nat.zero_le _,rfl⟩,rfl⟩ ?_);(exact sd);rintro _ _ ⟨⟨sn,hsn,rfl⟩,rfl⟩)|((first|refine Adz (Aez (Blz _ ?_)) ?_|refine Abz (Aez (Blz _ ?_)) ⟨.str ByteArray.empty,[],⟨ByteArray.empty,Nat.zero_le _,rfl⟩,rfl⟩ ?_);(exact sd);rintro _ _ ⟨⟨sn,hsn,rfl⟩,rfl⟩))<;>(try simp (disch:=omega) only [push_cast,seval,ho,hel,hil,h3,Aaz]))
 | (refine Amz ⟨.inr rfl,[],[],_,by decide,rfl,?_⟩;(try simp (disch:=omega) only [push_cast,seval,↓Aoz,↓Alz,↓List.map_cons,↓List.map_nil,ho,hel,hil,h3,Aaz]))))
    all_goals exact .inl ⟨_,rfl,rfl⟩




set_option maxHeartbeats 16000000 in
theorem I2z (cs:List Int) (es:List Ex) (m n:Nat) (k:Int) (nums:List Int) (l:Nat) (hm:cs.length=m) (hn:es.length=n) (hl:nums.length=l) (hv:vB cs es=true) (hk:actK k nums) :
    BCall Tryd.prog 59 [.agg [.own 0 m 1,.own 1 n 5],.agg [.int .i64 k,.own 2 l 1]] [IL cs,EL false es,IL nums] (OBa cs es nums m n):=by
  subst hm hn hl
  by_cases h6:k=6
  · subst h6
    have hk':∃ a,nums=[a]:=by
      rcases hk with h|h|h|h|h|h|h|h
      all_goals first|exact h.2|(exact absurd h.1 (by decide))
    obtain ⟨a,rfl⟩:=hk'
    exact apply6_ok cs es a hv
  have hel:=A4z false es
  have hbb:=J9z hv
  refine A3z (pins:=[0,1,2]) (pin:=3) l59_eq rfl rfl rfl ?_
  by_cases h13:k=1 ∨ k=2 ∨ k=3
  · have h3s:({ data:={ toList:=[97,116,32] } }:ByteArray).size=3:=rfl
    rcases h13 with rfl|rfl|rfl
    · (repeat' (first
 | (first|refine Apz ?_|refine Aiz ?_)
 | ((first|refine Aqz ?_|refine A6z (mid:=l59r5a) (post:=l59r5b) [64] Axz (by decide) ?_|refine A6z (mid:=l59r7a) (post:=l59r7b) [64] Axz (by decide) ?_|refine Ahz ?_|refine Ajz ?_|refine Akz ?_);simp (disch:=omega) only [push_cast,seval,l59r0,l59r1,l59r2,l59r3,l59r4,l59r5a,l59r5b,l59r5,l59r6,l59r7a,l59r7b,l59r7,l59r8,hel,Aaz])
 | ((first|refine Acz ?_ ?_|refine Agz ?_ ?_|refine Afz ?_ ?_)<;>intro h<;>(try simp only [h])<;>(try simp only [bitvec_to_nat] at h)<;>(try simp only [h])<;>(first|(exfalso;omega)|(exfalso;simp_all;done)|(simp (disch:=omega) only [push_cast,seval,hel,Aaz])|skip))
 | ((first|refine Arz false ?_|refine Anz false ?_);simp (disch:=omega) only [push_cast,seval,hel,Aaz])
 | ((first|(refine Adz (I0z _ _ _ _ _ _ _ ?_ ?_ ?_ ?_ ?_ ?_) ?_;(iterate 6 (exact sd));rintro _ _ (⟨csF,esF',rfl,rfl⟩|⟨cs',es',⟨hvD,hbD,hqD⟩,rfl,rfl⟩))|(refine Adz (Izz _ _ _ _ _ _ _ ?_ ?_ ?_ ?_ ?_ ?_) ?_;(iterate 6 (exact sd));rintro _ _ (⟨csF,esF',rfl,rfl⟩|⟨cs',es',⟨hvD,hbD,hqD⟩,rfl,rfl⟩))|((first|refine Adz (Cnz _ _ _ _ _ _ _ ?_ ?_ ?_ ?_) ?_|refine Abz (Cnz _ _ _ _ _ _ _ ?_ ?_ ?_ ?_) ⟨_,_,rfl,rfl⟩ ?_);(iterate 4 (exact sd));rintro _ _ ⟨rfl,rfl⟩)|((first|refine Adz (Aez (D9z _ _ ?_ ?_)) ?_|refine Abz (Aez (D9z _ _ ?_ ?_)) ⟨.str ByteArray.empty,[],⟨ByteArray.empty,Nat.zero_le _,rfl⟩,rfl⟩ ?_);(iterate 2 (exact sd));rintro _ _ ⟨⟨st,hst,rfl⟩,rfl⟩)|((first|refine Adz (Aez (A9z _ ?_)) ?_|refine Abz (Aez (A9z _ ?_)) ⟨.str ByteArray.empty,[],⟨ByteArray.empty,Nat.zero_le _,rfl⟩,rfl⟩ ?_);(exact sd);rintro _ _ ⟨⟨sn,hsn,rfl⟩,rfl⟩)|((first|refine Adz (Aez (Bez _ ?_)) ?_|refine Abz (Aez (Bez _ ?_)) ⟨.str ByteArray.empty,[],⟨ByteArray.empty,Nat.zero_le _,rfl⟩,rfl⟩ ?_);(exact sd);rintro _ _ ⟨⟨sn,hsn,rfl⟩,rfl⟩)|((first|refine Adz (Aez (Blz _ ?_)) ?_|refine Abz (Aez (Blz _ ?_)) ⟨.str ByteArray.empty,[],⟨ByteArray.empty,Nat.zero_le _,rfl⟩,rfl⟩ ?_);(exact sd);rintro _ _ ⟨⟨sn,hsn,rfl⟩,rfl⟩))<;>(try simp (disch:=omega) only [push_cast,seval,hel,Aaz]))))
      all_goals first|((refine Amz ⟨.inr rfl,[176,177],[],_,by decide,rfl,?_⟩;(try simp (disch:=omega) only [push_cast,seval,↓Aoz,↓Alz,↓List.map_cons,↓List.map_nil,hel,Aaz]));exact .inr ⟨_,_,_,hvD,rfl,rfl⟩)|((refine Amz ⟨.inr rfl,[],[],_,by decide,rfl,?_⟩;(try simp (disch:=omega) only [push_cast,seval,↓Aoz,↓Alz,↓List.map_cons,↓List.map_nil,hel,Aaz]));exact .inl ⟨_,rfl,rfl⟩)|skip
    · (repeat' (first
 | (first|refine Apz ?_|refine Aiz ?_)
 | ((first|refine Aqz ?_|refine A6z (mid:=l59r5a) (post:=l59r5b) [64] Axz (by decide) ?_|refine A6z (mid:=l59r7a) (post:=l59r7b) [64] Axz (by decide) ?_|refine Ahz ?_|refine Ajz ?_|refine Akz ?_);simp (disch:=omega) only [push_cast,seval,l59r0,l59r1,l59r2,l59r3,l59r4,l59r5a,l59r5b,l59r5,l59r6,l59r7a,l59r7b,l59r7,l59r8,hel,Aaz])
 | ((first|refine Acz ?_ ?_|refine Agz ?_ ?_|refine Afz ?_ ?_)<;>intro h<;>(try simp only [h])<;>(try simp only [bitvec_to_nat] at h)<;>(try simp only [h])<;>(first|(exfalso;omega)|(exfalso;simp_all;done)|(simp (disch:=omega) only [push_cast,seval,hel,Aaz])|skip))
 | ((first|refine Arz false ?_|refine Anz false ?_);simp (disch:=omega) only [push_cast,seval,hel,Aaz])
 | ((first|(refine Adz (I0z _ _ _ _ _ _ _ ?_ ?_ ?_ ?_ ?_ ?_) ?_;(iterate 6 (exact sd));rintro _ _ (⟨csF,esF',rfl,rfl⟩|⟨cs',es',⟨hvD,hbD,hqD⟩,rfl,rfl⟩))|(refine Adz (Izz _ _ _ _ _ _ _ ?_ ?_ ?_ ?_ ?_ ?_) ?_;(iterate 6 (exact sd));rintro _ _ (⟨csF,esF',rfl,rfl⟩|⟨cs',es',⟨hvD,hbD,hqD⟩,rfl,rfl⟩))|((first|refine Adz (Cnz _ _ _ _ _ _ _ ?_ ?_ ?_ ?_) ?_|refine Abz (Cnz _ _ _ _ _ _ _ ?_ ?_ ?_ ?_) ⟨_,_,rfl,rfl⟩ ?_);(iterate 4 (exact sd));rintro _ _ ⟨rfl,rfl⟩)|((first|refine Adz (Aez (D9z _ _ ?_ ?_)) ?_|refine Abz (Aez (D9z _ _ ?_ ?_)) ⟨.str ByteArray.empty,[],⟨ByteArray.empty,Nat.zero_le _,rfl⟩,rfl⟩ ?_);(iterate 2 (exact sd));rintro _ _ ⟨⟨st,hst,rfl⟩,rfl⟩)|((first|refine Adz (Aez (A9z _ ?_)) ?_|refine Abz (Aez (A9z _ ?_)) ⟨.str ByteArray.empty,[],⟨ByteArray.empty,Nat.zero_le _,rfl⟩,rfl⟩ ?_);(exact sd);rintro _ _ ⟨⟨sn,hsn,rfl⟩,rfl⟩)|((first|refine Adz (Aez (Bez _ ?_)) ?_|refine Abz (Aez (Bez _ ?_)) ⟨.str ByteArray.empty,[],⟨ByteArray.empty,Nat.zero_le _,rfl⟩,rfl⟩ ?_);(exact sd);rintro _ _ ⟨⟨sn,hsn,rfl⟩,rfl⟩)|((first|refine Adz (Aez (Blz _ ?_)) ?_|refine Abz (Aez (Blz _ ?_)) ⟨.str ByteArray.empty,[],⟨ByteArray.empty,Nat.zero_le _,rfl⟩,rfl⟩ ?_);(exact sd);rintro _ _ ⟨⟨sn,hsn,rfl⟩,rfl⟩))<;>(try simp (disch:=omega) only [push_cast,seval,hel,Aaz]))))
      all_goals first|((refine Amz ⟨.inr rfl,[176,177],[],_,by decide,rfl,?_⟩;(try simp (disch:=omega) only [push_cast,seval,↓Aoz,↓Alz,↓List.map_cons,↓List.map_nil,hel,Aaz]));exact .inr ⟨_,_,_,hvD,rfl,rfl⟩)|((refine Amz ⟨.inr rfl,[],[],_,by decide,rfl,?_⟩;(try simp (disch:=omega) only [push_cast,seval,↓Aoz,↓Alz,↓List.map_cons,↓List.map_nil,hel,Aaz]));exact .inl ⟨_,rfl,rfl⟩)|skip
    · (repeat' (first
 | (first|refine Apz ?_|refine Aiz ?_)
 | ((first|refine Aqz ?_|refine A6z (mid:=l59r5a) (post:=l59r5b) [64] Axz (by decide) ?_|refine A6z (mid:=l59r7a) (post:=l59r7b) [64] Axz (by decide) ?_|refine Ahz ?_|refine Ajz ?_|refine Akz ?_);simp (disch:=omega) only [push_cast,seval,l59r0,l59r1,l59r2,l59r3,l59r4,l59r5a,l59r5b,l59r5,l59r6,l59r7a,l59r7b,l59r7,l59r8,hel,Aaz])
 | ((first|refine Acz ?_ ?_|refine Agz ?_ ?_|refine Afz ?_ ?_)<;>intro h<;>(try simp only [h])<;>(try simp only [bitvec_to_nat] at h)<;>(try simp only [h])<;>(first|(exfalso;omega)|(exfalso;simp_all;done)|(simp (disch:=omega) only [push_cast,seval,hel,Aaz])|skip))
 | ((first|refine Arz false ?_|refine Anz false ?_);simp (disch:=omega) only [push_cast,seval,hel,Aaz])
 | ((first|(refine Adz (I0z _ _ _ _ _ _ _ ?_ ?_ ?_ ?_ ?_ ?_) ?_;(iterate 6 (exact sd));rintro _ _ (⟨csF,esF',rfl,rfl⟩|⟨cs',es',⟨hvD,hbD,hqD⟩,rfl,rfl⟩))|(refine Adz (Izz _ _ _ _ _ _ _ ?_ ?_ ?_ ?_ ?_ ?_) ?_;(iterate 6 (exact sd));rintro _ _ (⟨csF,esF',rfl,rfl⟩|⟨cs',es',⟨hvD,hbD,hqD⟩,rfl,rfl⟩))|((first|refine Adz (Cnz _ _ _ _ _ _ _ ?_ ?_ ?_ ?_) ?_|refine Abz (Cnz _ _ _ _ _ _ _ ?_ ?_ ?_ ?_) ⟨_,_,rfl,rfl⟩ ?_);(iterate 4 (exact sd));rintro _ _ ⟨rfl,rfl⟩)|((first|refine Adz (Aez (D9z _ _ ?_ ?_)) ?_|refine Abz (Aez (D9z _ _ ?_ ?_)) ⟨.str ByteArray.empty,[],⟨ByteArray.empty,Nat.zero_le _,rfl⟩,rfl⟩ ?_);(iterate 2 (exact sd));rintro _ _ ⟨⟨st,hst,rfl⟩,rfl⟩)|((first|refine Adz (Aez (A9z _ ?_)) ?_|refine Abz (Aez (A9z _ ?_)) ⟨.str ByteArray.empty,[],⟨ByteArray.empty,Nat.zero_le _,rfl⟩,rfl⟩ ?_);(exact sd);rintro _ _ ⟨⟨sn,hsn,rfl⟩,rfl⟩)|((first|refine Adz (Aez (Bez _ ?_)) ?_|refine Abz (Aez (Bez _ ?_)) ⟨.str ByteArray.empty,[],⟨ByteArray.empty,Nat.zero_le _,rfl⟩,rfl⟩ ?_);(exact sd);rintro _ _ ⟨⟨sn,hsn,rfl⟩,rfl⟩)|((first|refine Adz (Aez (Blz _ ?_)) ?_|refine Abz (Aez (Blz _ ?_)) ⟨.str ByteArray.empty,[],⟨ByteArray.empty,Nat.zero_le _,rfl⟩,rfl⟩ ?_);(exact sd);rintro _ _ ⟨⟨sn,hsn,rfl⟩,rfl⟩))<;>(try simp (disch:=omega) only [push_cast,seval,hel,Aaz]))))
      all_goals first|((refine Amz ⟨.inr rfl,[176,177],[],_,by decide,rfl,?_⟩;(try simp (disch:=omega) only [push_cast,seval,↓Aoz,↓Alz,↓List.map_cons,↓List.map_nil,hel,Aaz]));exact .inr ⟨_,_,_,hvD,rfl,rfl⟩)|((refine Amz ⟨.inr rfl,[],[],_,by decide,rfl,?_⟩;(try simp (disch:=omega) only [push_cast,seval,↓Aoz,↓Alz,↓List.map_cons,↓List.map_nil,hel,Aaz]));exact .inl ⟨_,rfl,rfl⟩)|skip
  · have h14:¬ (k=1 ∨ k=2 ∨ k=3) ∧ k ≠ 6:=⟨h13,h6⟩
    have n6:(k=6)=False:=eq_false h6
    have n1:(k=1)=False:=eq_false (by omega)
    have n2:(k=2)=False:=eq_false (by omega)
    have n3:(k=3)=False:=eq_false (by omega)
    (repeat' (first
 | (first|refine Apz ?_|refine Aiz ?_)
 | ((first|refine Aqz ?_|refine A6z (mid:=l59r5a) (post:=l59r5b) [64] Axz (by decide) ?_|refine A6z (mid:=l59r7a) (post:=l59r7b) [64] Axz (by decide) ?_|refine Ahz ?_|refine Ajz ?_|refine Akz ?_);simp (disch:=omega) only [push_cast,seval,l59r0,l59r1,l59r2,l59r3,l59r4,l59r5a,l59r5b,l59r5,l59r6,l59r7a,l59r7b,l59r7,l59r8,hel,n6,n1,n2,n3,Aaz])
 | ((first|refine Acz ?_ ?_|refine Agz ?_ ?_|refine Afz ?_ ?_)<;>intro h<;>(try simp only [h])<;>(try simp only [bitvec_to_nat] at h)<;>(try simp only [h])<;>(first|(exfalso;omega)|(exfalso;simp_all;done)|(simp (disch:=omega) only [push_cast,seval,hel,n6,n1,n2,n3,Aaz])|skip))
 | ((first|refine Arz false ?_|refine Anz false ?_);simp (disch:=omega) only [push_cast,seval,hel,n6,n1,n2,n3,Aaz])
 | ((first|(refine Adz (I0z _ _ _ _ _ _ _ ?_ ?_ ?_ ?_ ?_ ?_) ?_;(iterate 6 (exact sd));rintro _ _ (⟨csF,esF',rfl,rfl⟩|⟨cs',es',⟨hvD,hbD,hqD⟩,rfl,rfl⟩))|(refine Adz (Izz _ _ _ _ _ _ _ ?_ ?_ ?_ ?_ ?_ ?_) ?_;(iterate 6 (exact sd));rintro _ _ (⟨csF,esF',rfl,rfl⟩|⟨cs',es',⟨hvD,hbD,hqD⟩,rfl,rfl⟩))|((first|refine Adz (Cnz _ _ _ _ _ _ _ ?_ ?_ ?_ ?_) ?_|refine Abz (Cnz _ _ _ _ _ _ _ ?_ ?_ ?_ ?_) ⟨_,_,rfl,rfl⟩ ?_);(iterate 4 (exact sd));rintro _ _ ⟨rfl,rfl⟩)|((first|refine Adz (Aez (D9z _ _ ?_ ?_)) ?_|refine Abz (Aez (D9z _ _ ?_ ?_)) ⟨.str ByteArray.empty,[],⟨ByteArray.empty,Nat.zero_le _,rfl⟩,rfl⟩ ?_);(iterate 2 (exact sd));rintro _ _ ⟨⟨st,hst,rfl⟩,rfl⟩)|((first|refine Adz (Aez (A9z _ ?_)) ?_|refine Abz (Aez (A9z _ ?_)) ⟨.str ByteArray.empty,[],⟨ByteArray.empty,Nat.zero_le _,rfl⟩,rfl⟩ ?_);(exact sd);rintro _ _ ⟨⟨sn,hsn,rfl⟩,rfl⟩)|((first|refine Adz (Aez (Bez _ ?_)) ?_|refine Abz (Aez (Bez _ ?_)) ⟨.str ByteArray.empty,[],⟨ByteArray.empty,Nat.zero_le _,rfl⟩,rfl⟩ ?_);(exact sd);rintro _ _ ⟨⟨sn,hsn,rfl⟩,rfl⟩)|((first|refine Adz (Aez (Blz _ ?_)) ?_|refine Abz (Aez (Blz _ ?_)) ⟨.str ByteArray.empty,[],⟨ByteArray.empty,Nat.zero_le _,rfl⟩,rfl⟩ ?_);(exact sd);rintro _ _ ⟨⟨sn,hsn,rfl⟩,rfl⟩))<;>(try simp (disch:=omega) only [push_cast,seval,hel,n6,n1,n2,n3,Aaz]))))
    all_goals first|((refine Amz ⟨.inr rfl,[176,177],[],_,by decide,rfl,?_⟩;(try simp (disch:=omega) only [push_cast,seval,↓Aoz,↓Alz,↓List.map_cons,↓List.map_nil,hel,Aaz]));exact .inr ⟨_,_,_,hvD,rfl,rfl⟩)|((refine Amz ⟨.inr rfl,[],[],_,by decide,rfl,?_⟩;(try simp (disch:=omega) only [push_cast,seval,↓Aoz,↓Alz,↓List.map_cons,↓List.map_nil,hel,Aaz]));exact .inl ⟨_,rfl,rfl⟩)|skip

end Go.Proofs.YtkpcjppnjmhanaaDoor
namespace Go.Proofs.YtkpcjppnjmhanaaDoor
open VwM Vw Go
variable [SentA]

theorem actK_rest {k a:Int} (hx:k ∈ unI [AV.int IntKind.i64 1,AV.int IntKind.i64 2,AV.int IntKind.i64 3,AV.int IntKind.i64 4,AV.int IntKind.i64 5,AV.int IntKind.i64 6,AV.int IntKind.i64 7,AV.int IntKind.i64 0,AV.int IntKind.i64 6,AV.int IntKind.i64 4]) (h:(k ≠ 0 ∧ k ≠ 1 ∧ k ≠ 2) ∧ k ≠ 4 ∧ k ≠ 5):actK k [a]:=by
  simp only [Djz,Ekz,List.mem_cons,List.not_mem_nil,or_false] at hx
  have h3:k=3 ∨ k=6 ∨ k=7:=by omega
  rcases h3 with rfl|rfl|rfl
  · exact .inr (.inr (.inr (.inl ⟨rfl,_,rfl⟩)))
  · exact .inr (.inr (.inr (.inr (.inr (.inr (.inl ⟨rfl,_,rfl⟩))))))
  · exact .inr (.inr (.inr (.inr (.inr (.inr (.inr ⟨rfl,_,rfl⟩))))))


set_option maxHeartbeats 16000000 in
theorem Dez (bs:List Int) (p:Int) (cs:List Int) (es:List Ex) (m n:Nat) (hm:cs.length=m) (hn:es.length=n) (hbs:okB bs) (hp:0 ≤ p ∧ p ≤ 900000) (hv:vB cs es=true) :
    BCall Tryd.prog 60 [.ref 0 2 0,.agg [.own 1 m 1,.own 2 n 5]] [RD bs p,IL cs,EL false es] (fun r H'=>∃ k nums p',actK k nums ∧ (p ≤ p' ∧ p' ≤ p + 10) ∧ r=.agg [.int .i64 k,.own 3 nums.length 1] ∧ H'=[RD bs p',IL cs,EL false es,IL nums]):=by
  subst hm hn
  have hel:=A4z false es
  have hq8:=vB_x hv
  obtain ⟨hp1,hp2⟩:=hp
  obtain ⟨v1,v2,v3⟩:=J9z hv
  have hol:=Kez cs es
  generalize hO:opensA cs es=O at *
  refine A3z (pins:=[0,1,2]) (pin:=3) l60_eq rfl rfl rfl ?_
  (repeat' (first
 | (first|refine Apz ?_|refine Aiz ?_)
 | ((first|refine Aqz ?_|refine Ahz ?_|refine Ajz ?_|refine Akz ?_);simp (disch:=omega) only [push_cast,seval,l60r0,l60r1,l60r2,l60r3,l60r4,l60r5,l60r6,l60r7,l60r8,l60r9,l60r10,l60r11,l60r12,l60r13,l60r14,l60r15,l60r16,l60r17,hO,hel,Aaz])
 | ((first|refine Acz ?_ ?_|refine Agz ?_ ?_|refine Afz ?_ ?_)<;>intro h<;>(try simp only [h])<;>(try simp only [bitvec_to_nat] at h)<;>(try simp only [h])<;>(first|(exfalso;omega)|(exfalso;simp_all;done)|(simp (disch:=omega) only [push_cast,seval,hO,hel,Aaz])|skip))
 | ((first|((with_reducible refine Azz (f:=40) [0] true ?_);simp (disch:=omega) only [push_cast,seval,hO,hel,Aaz];(refine Dpz (id:=0) (Dlz _ _ _ ?_ ?_) (by (simp (disch:=omega) only [push_cast,seval,hO,hel,Aaz])<;>rfl) ?_;(iterate 2 (exact sd));rintro _ _ ⟨x,hx0,hx1,rfl,rfl⟩))|((with_reducible refine Bxz (f:=40) [0] true ?_);simp (disch:=omega) only [push_cast,seval,hO,hel,Aaz];(refine Dbz (id:=0) (Dlz _ _ _ ?_ ?_) (by (simp (disch:=omega) only [push_cast,seval,hO,hel,Aaz])<;>rfl) (by decide) ⟨_,_,0,by omega,Or.inr (Or.inr rfl),rfl,rfl⟩ ?_;(iterate 2 (exact sd));rintro _ _ ⟨x,hx0,hx1,rfl,rfl⟩))|((with_reducible refine Azz (f:=41) (args:=[Operand.tmp 31,Operand.tmp 32]) [0,512] true ?_);simp (disch:=omega) only [push_cast,seval,hO,hel,Aaz];(refine Czz (id:=0) (id':=512) (by decide) (Eez _ _ _ _ ?_ ?_ ?_ ?_ ?_) (by (simp (disch:=omega) only [push_cast,seval,hO,hel,Aaz])<;>rfl) (by (simp (disch:=omega) only [push_cast,seval,hO,hel,Aaz])<;>rfl) ?_;(iterate 5 (exact sd));rintro _ _ ⟨x,hx,hx0,rfl,rfl⟩))|((with_reducible refine Azz (f:=41) (args:=[Operand.tmp 42,Operand.tmp 43]) [0,688] true ?_);simp (disch:=omega) only [push_cast,seval,hO,hel,Aaz];(refine Czz (id:=0) (id':=688) (by decide) (Eez _ _ _ _ ?_ ?_ ?_ ?_ ?_) (by (simp (disch:=omega) only [push_cast,seval,hO,hel,Aaz])<;>rfl) (by (simp (disch:=omega) only [push_cast,seval,hO,hel,Aaz])<;>rfl) ?_;(iterate 5 (exact sd));rintro _ _ ⟨x,hx,hx0,rfl,rfl⟩))|((with_reducible refine Azz (f:=41) (args:=[Operand.tmp 52,Operand.tmp 53]) [0,848] true ?_);simp (disch:=omega) only [push_cast,seval,hO,hel,Aaz];(refine Czz (id:=0) (id':=848) (by decide) (Eez _ _ _ _ ?_ ?_ ?_ ?_ ?_) (by (simp (disch:=omega) only [push_cast,seval,hO,hel,Aaz])<;>rfl) (by (simp (disch:=omega) only [push_cast,seval,hO,hel,Aaz])<;>rfl) ?_;(iterate 5 (exact sd));rintro _ _ ⟨x,hx,hx0,rfl,rfl⟩))|((with_reducible refine Azz (f:=41) (args:=[Operand.tmp 55,Operand.tmp 56]) [0,896] true ?_);simp (disch:=omega) only [push_cast,seval,hO,hel,Aaz];(refine Czz (id:=0) (id':=896) (by decide) (Eez _ _ _ _ ?_ ?_ ?_ ?_ ?_) (by (simp (disch:=omega) only [push_cast,seval,hO,hel,Aaz])<;>rfl) (by (simp (disch:=omega) only [push_cast,seval,hO,hel,Aaz])<;>rfl) ?_;(iterate 5 (exact sd));rintro _ _ ⟨x,hx,hx0,rfl,rfl⟩))|((with_reducible refine Azz (f:=41) (args:=[Operand.tmp 66,Operand.tmp 67]) [0,1072] true ?_);simp (disch:=omega) only [push_cast,seval,hO,hel,Aaz];(refine Czz (id:=0) (id':=1072) (by decide) (Eez _ _ _ _ ?_ ?_ ?_ ?_ ?_) (by (simp (disch:=omega) only [push_cast,seval,hO,hel,Aaz])<;>rfl) (by (simp (disch:=omega) only [push_cast,seval,hO,hel,Aaz])<;>rfl) ?_;(iterate 5 (exact sd));rintro _ _ ⟨x,hx,hx0,rfl,rfl⟩))|((with_reducible refine Azz (f:=41) (args:=[Operand.tmp 69,Operand.tmp 70]) [0,1120] true ?_);simp (disch:=omega) only [push_cast,seval,hO,hel,Aaz];(refine Czz (id:=0) (id':=1120) (by decide) (Eez _ _ _ _ ?_ ?_ ?_ ?_ ?_) (by (simp (disch:=omega) only [push_cast,seval,hO,hel,Aaz])<;>rfl) (by (simp (disch:=omega) only [push_cast,seval,hO,hel,Aaz])<;>rfl) ?_;(iterate 5 (exact sd));rintro _ _ ⟨x,hx,hx0,rfl,rfl⟩))|((with_reducible refine Azz (f:=41) [0] true ?_);simp (disch:=omega) only [push_cast,seval,hO,hel,Aaz];(refine Dpz (id:=0) (C8z _ _ _ _ ?_ ?_ ?_ ?_ ?_) (by (simp (disch:=omega) only [push_cast,seval,hO,hel,Aaz])<;>rfl) ?_;(iterate 5 (exact sd));rintro _ _ ⟨x,hx,hx0,rfl,rfl⟩))|((with_reducible refine Bxz (f:=41) [0] true ?_);simp (disch:=omega) only [push_cast,seval,hO,hel,Aaz];(refine Dbz (id:=0) (C8z _ _ _ _ ?_ ?_ ?_ ?_ ?_) (by (simp (disch:=omega) only [push_cast,seval,hO,hel,Aaz])<;>rfl) (by decide) (by simp only [Djz,Ekz];exact ⟨_,_,_,List.mem_cons_self,by omega,rfl,rfl⟩) ?_;(iterate 5 (exact sd));rintro _ _ ⟨x,hx,hx0,rfl,rfl⟩)))<;>(try simp (disch:=omega) only [push_cast,seval,hO,hel,Aaz]))
 | ((first|refine Arz false ?_|refine Anz false ?_);simp (disch:=omega) only [push_cast,seval,hO,hel,Aaz])
 | ((first|((first|refine Adz (Cyz _ _ _ _ ?_ ?_ ?_) ?_|refine Abz (Cyz _ _ _ _ ?_ ?_ ?_) ⟨_,_,rfl,rfl⟩ ?_);(iterate 3 (exact sd));rintro _ _ ⟨rfl,rfl⟩))<;>(try simp (disch:=omega) only [push_cast,seval,hO,hel,Aaz]))))
  all_goals first
    | ((refine Amz ⟨.inr rfl,[720],[],_,by decide,rfl,?_⟩;(try simp (disch:=omega) only [push_cast,seval,↓Aoz,↓Alz,↓List.map_cons,↓List.map_nil,hO,Aaz]));exact ⟨_,[_],_,.inl ⟨(by first|rfl|omega),_,rfl⟩,by omega,rfl,rfl⟩)
    | ((refine Amz ⟨.inr rfl,[928],[],_,by decide,rfl,?_⟩;(try simp (disch:=omega) only [push_cast,seval,↓Aoz,↓Alz,↓List.map_cons,↓List.map_nil,hO,Aaz]));exact ⟨_,[_,_,_],_,.inr (.inl ⟨(by first|rfl|omega),_,_,_,rfl⟩),by omega,rfl,rfl⟩)
    | ((refine Amz ⟨.inr rfl,[1152],[],_,by decide,rfl,?_⟩;(try simp (disch:=omega) only [push_cast,seval,↓Aoz,↓Alz,↓List.map_cons,↓List.map_nil,hO,Aaz]));exact ⟨_,[_,_,_,_],_,.inr (.inr (.inl ⟨(by first|rfl|omega),_,_,_,_,rfl⟩)),by omega,rfl,rfl⟩)
    | ((refine Amz ⟨.inr rfl,[1280],[],_,by decide,rfl,?_⟩;(try simp (disch:=omega) only [push_cast,seval,↓Aoz,↓Alz,↓List.map_cons,↓List.map_nil,hO,Aaz]));exact ⟨_,[_,_],_,.inr (.inr (.inr (.inr (.inl ⟨(by first|rfl|omega),_,_,rfl⟩)))),by omega,rfl,rfl⟩)
    | ((refine Amz ⟨.inr rfl,[1472],[],_,by decide,rfl,?_⟩;(try simp (disch:=omega) only [push_cast,seval,↓Aoz,↓Alz,↓List.map_cons,↓List.map_nil,hO,Aaz]));exact ⟨_,[_,_],_,.inr (.inr (.inr (.inr (.inr (.inl ⟨(by first|rfl|omega),_,_,rfl⟩))))),by omega,rfl,rfl⟩)
    | ((refine Amz ⟨.inr rfl,[592],[],_,by decide,rfl,?_⟩;(try simp (disch:=omega) only [push_cast,seval,↓Aoz,↓Alz,↓List.map_cons,↓List.map_nil,hO,Aaz]));exact ⟨_,[_],_,actK_rest hx (by omega),by omega,rfl,rfl⟩)
    | skip

end Go.Proofs.YtkpcjppnjmhanaaDoor
namespace Go.Proofs.YtkpcjppnjmhanaaDoor
open VwM Vw Go
variable [SentA]

set_option maxHeartbeats 16000000 in
theorem goodB_ok (bs:List Int) (p:Int) (hbs:okB bs) (hp:0 ≤ p ∧ p ≤ 800000) :
    BCall Tryd.prog 44 [.ref 0 2 0] [RD bs p] (fun r H'=>∃ cs es c p',vB cs es=true ∧ (cs.length ≤ 60 ∧ es.length ≤ 8 ∧ exB 4 es) ∧ (p ≤ p' ∧ p' ≤ p + 110) ∧ r=.agg [.own 1 cs.length 1,.own 2 es.length 5] ∧ H'=[RD bs p',IL cs,EL c es]):=by
  obtain ⟨hp1,hp2⟩:=hp
  refine A3z (pins:=[0]) (pin:=1) l44_eq rfl rfl rfl ?_
  (repeat' (first
 | (first|refine Apz ?_|refine Aiz ?_)
 | ((first|refine Aqz ?_|refine A6z (mid:=l44r4a) (post:=l44r4b) [48,1000000017,1000000019] Axz (by decide) ?_|refine Ahz ?_|refine Ajz ?_|refine Akz ?_);simp (disch:=omega) only [push_cast,seval,l44r0,l44r1,l44r2,l44r3,l44r4a,l44r4b,l44r4,l44r5,l44r6,Aaz])
 | ((first|refine Acz ?_ ?_|refine Agz ?_ ?_|refine Afz ?_ ?_)<;>intro h<;>(try simp only [h])<;>(try simp only [bitvec_to_nat] at h)<;>(try simp only [h])<;>(first|(exfalso;omega)|(exfalso;simp_all;done)|(simp (disch:=omega) only [push_cast,seval,Aaz])|skip))
 | ((first|((with_reducible refine Azz (f:=41) (args:=[Operand.tmp 5,Operand.tmp 6]) [0,96] true ?_);simp (disch:=omega) only [push_cast,seval,Aaz];(refine Czz (id:=0) (id':=96) (by decide) (Eez _ _ _ _ ?_ ?_ ?_ ?_ ?_) (by (simp (disch:=omega) only [push_cast,seval,Aaz])<;>rfl) (by (simp (disch:=omega) only [push_cast,seval,Aaz])<;>rfl) ?_;(iterate 5 (exact sd));rintro _ _ ⟨x,hx,hx0,rfl,rfl⟩))|((with_reducible refine Azz (f:=41) (args:=[Operand.tmp 9,Operand.tmp 10]) [0,160] true ?_);simp (disch:=omega) only [push_cast,seval,Aaz];(refine Czz (id:=0) (id':=160) (by decide) (Eez _ _ _ _ ?_ ?_ ?_ ?_ ?_) (by (simp (disch:=omega) only [push_cast,seval,Aaz])<;>rfl) (by (simp (disch:=omega) only [push_cast,seval,Aaz])<;>rfl) ?_;(iterate 5 (exact sd));rintro _ _ ⟨x,hx,hx0,rfl,rfl⟩))|((with_reducible refine Azz (f:=41) [0] true ?_);simp (disch:=omega) only [push_cast,seval,Aaz];(refine Dpz (id:=0) (C8z _ _ _ _ ?_ ?_ ?_ ?_ ?_) (by (simp (disch:=omega) only [push_cast,seval,Aaz])<;>rfl) ?_;(iterate 5 (exact sd));rintro _ _ ⟨x,hx,hx0,rfl,rfl⟩))|((with_reducible refine Bxz (f:=41) [0] true ?_);simp (disch:=omega) only [push_cast,seval,Aaz];(refine Dbz (id:=0) (C8z _ _ _ _ ?_ ?_ ?_ ?_ ?_) (by (simp (disch:=omega) only [push_cast,seval,Aaz])<;>rfl) (by decide) (by simp only [Djz,Ekz];exact ⟨_,_,_,List.mem_cons_self,by omega,rfl,rfl⟩) ?_;(iterate 5 (exact sd));rintro _ _ ⟨x,hx,hx0,rfl,rfl⟩))|((with_reducible refine Azz (f:=60) [0,9000,9001] true ?_);simp (disch:=omega) only [push_cast,seval,Aaz];(refine G0z (by decide) (Dez _ _ _ _ _ _ ?_ ?_ ?_ ?_ ?_) (by (simp (disch:=omega) only [push_cast,seval,Aaz])<;>rfl) ?_;(iterate 5 (exact sd));rintro _ _ ⟨kA,nums,pA,hkA,hpA,rfl,rfl⟩))|((with_reducible refine Bxz (f:=60) [0,9000,9001] true ?_);simp (disch:=omega) only [push_cast,seval,Aaz];(refine Laz (by decide) (Dez _ _ _ _ _ _ ?_ ?_ ?_ ?_ ?_) (by (simp (disch:=omega) only [push_cast,seval,Aaz])<;>rfl) (by decide) ⟨_,_,0,[0],_,.inl ⟨rfl,0,rfl⟩,⟨Int.le_refl _,by omega⟩,rfl,rfl⟩ ?_;(iterate 5 (exact sd));rintro _ _ ⟨kA,nums,pA,hkA,hpA,rfl,rfl⟩))|((with_reducible refine Azz (f:=59) [9000,9001,320] true ?_);simp (disch:=omega) only [push_cast,seval,Aaz];(refine G0z (by decide) (I2z _ _ _ _ _ _ _ ?_ ?_ ?_ ?_ ?_) (by (simp (disch:=omega) only [push_cast,seval,Aaz])<;>rfl) ?_;(iterate 5 (exact sd));rintro _ _ (⟨sa,rfl,rfl⟩|⟨csA,esA,sa,hvA,rfl,rfl⟩))))<;>(try simp (disch:=omega) only [push_cast,seval,Aaz]))
 | ((first|refine Arz false ?_|refine Anz false ?_);simp (disch:=omega) only [push_cast,seval,Aaz])
 | ((first|((first|refine Adz (Dgz _) ?_|refine Abz (Dgz _) ⟨_,_,rfl,rfl⟩ ?_);rintro _ _ ⟨rfl,rfl⟩))<;>(try simp (disch:=omega) only [push_cast,seval,Aaz]))))
  rename_i y hy hy0
  have hN:=nbN_le y
  have hv0:vB (List.replicate (nbN y) 0) []=true:=by
    rw [Gvz]
    exact ⟨D2z.2 ⟨by simpa using hN,fun v hv=>by rw [(List.mem_replicate.1 hv).2];omega⟩,Nat.zero_le _,fun i e he=>by simp at he⟩
  have hx8:0 ≤ x ∧ x ≤ 8:=by
    simp only [Djz,Ekz,List.mem_cons,List.not_mem_nil,or_false] at hx
    omega
  refine D7z (fun z:List Int × List Ex × Bool × Int × Int=>mkS [(0,.ref 0 2 0),(2,.ref 32 2 0),(3,.ref 48 2 0),(4,.int .i64 z.2.2.2.1)] [(0,RD bs z.2.2.2.2),(32,[.val (.slice none 0 0),.val (.slice none 0 0)]),(48,[.own 9000 z.1.length 1,.own 9001 z.2.1.length 5]),(9000,IL z.1),(9001,EL z.2.2.1 z.2.1)]) (fun z=>vB z.1 z.2.1=true ∧ (0 ≤ z.2.2.2.1 ∧ z.2.2.2.1 ≤ 8) ∧ p ≤ z.2.2.2.2 ∧ z.2.2.2.2 + 10 * z.2.2.2.1 ≤ p + 100) (fun z=>z.2.2.2.1.toNat) (List.replicate (nbN y) 0,[],true,x,p + 1 + 1) ⟨hv0,hx8,by simp only;omega,by simp only;omega⟩ ?_ ?_
  · refine SubW.mk2 128 9000 129 9001 (by omega) ?_
    simp only [List.map_cons,List.map_nil,AV.sw,swL,K0z,swp,↓reduceIte,Nat.reduceEqDiff]
    (refine Sub.of_lists ?_ ?_ ?_ ?_ ?_<;>simp [Vw.mkS,Vw.lk,Vw.hk,AV.inn,innL,Awz,Atz,Ayz,-List.map_set,-List.getD_eq_getElem?_getD,EL])
  · rintro ⟨cs,es,c,n,q⟩ ⟨hv,hn,hq1,hq2⟩
    simp only at hv hn hq1 hq2 ⊢
    have hel:=A4z c es
    by_cases hlt:n > 0
    · (repeat' (first
 | (first|refine Apz ?_|refine Aiz ?_)
 | ((first|refine Aqz ?_|refine Ahz ?_|refine Ajz ?_|refine Akz ?_);simp (disch:=omega) only [push_cast,seval,l44r0,l44r1,l44r2,l44r3,l44r4a,l44r4b,l44r4,l44r5,l44r6,hlt,hel,Aaz])
 | ((first|refine Acz ?_ ?_|refine Agz ?_ ?_|refine Afz ?_ ?_)<;>intro h<;>(try simp only [h])<;>(try simp only [bitvec_to_nat] at h)<;>(try simp only [h])<;>(first|(exfalso;omega)|(exfalso;simp_all;done)|(simp (disch:=omega) only [push_cast,seval,hlt,hel,Aaz])|skip))
 | ((first|((with_reducible refine Azz (f:=41) (args:=[Operand.tmp 5,Operand.tmp 6]) [0,96] true ?_);simp (disch:=omega) only [push_cast,seval,hlt,hel,Aaz];(refine Czz (id:=0) (id':=96) (by decide) (Eez _ _ _ _ ?_ ?_ ?_ ?_ ?_) (by (simp (disch:=omega) only [push_cast,seval,hlt,hel,Aaz])<;>rfl) (by (simp (disch:=omega) only [push_cast,seval,hlt,hel,Aaz])<;>rfl) ?_;(iterate 5 (exact sd));rintro _ _ ⟨x,hx,hx0,rfl,rfl⟩))|((with_reducible refine Azz (f:=41) (args:=[Operand.tmp 9,Operand.tmp 10]) [0,160] true ?_);simp (disch:=omega) only [push_cast,seval,hlt,hel,Aaz];(refine Czz (id:=0) (id':=160) (by decide) (Eez _ _ _ _ ?_ ?_ ?_ ?_ ?_) (by (simp (disch:=omega) only [push_cast,seval,hlt,hel,Aaz])<;>rfl) (by (simp (disch:=omega) only [push_cast,seval,hlt,hel,Aaz])<;>rfl) ?_;(iterate 5 (exact sd));rintro _ _ ⟨x,hx,hx0,rfl,rfl⟩))|((with_reducible refine Azz (f:=41) [0] true ?_);simp (disch:=omega) only [push_cast,seval,hlt,hel,Aaz];(refine Dpz (id:=0) (C8z _ _ _ _ ?_ ?_ ?_ ?_ ?_) (by (simp (disch:=omega) only [push_cast,seval,hlt,hel,Aaz])<;>rfl) ?_;(iterate 5 (exact sd));rintro _ _ ⟨x,hx,hx0,rfl,rfl⟩))|((with_reducible refine Bxz (f:=41) [0] true ?_);simp (disch:=omega) only [push_cast,seval,hlt,hel,Aaz];(refine Dbz (id:=0) (C8z _ _ _ _ ?_ ?_ ?_ ?_ ?_) (by (simp (disch:=omega) only [push_cast,seval,hlt,hel,Aaz])<;>rfl) (by decide) (by simp only [Djz,Ekz];exact ⟨_,_,_,List.mem_cons_self,by omega,rfl,rfl⟩) ?_;(iterate 5 (exact sd));rintro _ _ ⟨x,hx,hx0,rfl,rfl⟩))|((with_reducible refine Azz (f:=60) [0,9000,9001] true ?_);simp (disch:=omega) only [push_cast,seval,hlt,hel,Aaz];(refine G0z (by decide) (Dez _ _ _ _ _ _ ?_ ?_ ?_ ?_ ?_) (by (simp (disch:=omega) only [push_cast,seval,hlt,hel,Aaz])<;>rfl) ?_;(iterate 5 (exact sd));rintro _ _ ⟨kA,nums,pA,hkA,hpA,rfl,rfl⟩))|((with_reducible refine Bxz (f:=60) [0,9000,9001] true ?_);simp (disch:=omega) only [push_cast,seval,hlt,hel,Aaz];(refine Laz (by decide) (Dez _ _ _ _ _ _ ?_ ?_ ?_ ?_ ?_) (by (simp (disch:=omega) only [push_cast,seval,hlt,hel,Aaz])<;>rfl) (by decide) ⟨_,_,0,[0],_,.inl ⟨rfl,0,rfl⟩,⟨Int.le_refl _,by omega⟩,rfl,rfl⟩ ?_;(iterate 5 (exact sd));rintro _ _ ⟨kA,nums,pA,hkA,hpA,rfl,rfl⟩))|((with_reducible refine Azz (f:=59) [9000,9001,320] true ?_);simp (disch:=omega) only [push_cast,seval,hlt,hel,Aaz];(refine G0z (by decide) (I2z _ _ _ _ _ _ _ ?_ ?_ ?_ ?_ ?_) (by (simp (disch:=omega) only [push_cast,seval,hlt,hel,Aaz])<;>rfl) ?_;(iterate 5 (exact sd));rintro _ _ (⟨sa,rfl,rfl⟩|⟨csA,esA,sa,hvA,rfl,rfl⟩))))<;>(try simp (disch:=omega) only [push_cast,seval,hlt,hel,Aaz]))
 | ((first|refine Arz false ?_|refine Anz false ?_);simp (disch:=omega) only [push_cast,seval,hlt,hel,Aaz])
 | ((first|((first|refine Adz (Dgz _) ?_|refine Abz (Dgz _) ⟨_,_,rfl,rfl⟩ ?_);rintro _ _ ⟨rfl,rfl⟩))<;>(try simp (disch:=omega) only [push_cast,seval,hlt,hel,Aaz]))))
      refine awp_drawW (a:=l44r4a.take 4) (nth l44r4a 4) (b:=l44r4a.drop 5) (post:=l44r4b) [0,9000,9001] [48] rfl Axz (by decide) ?_
      simp (disch:=omega) only [push_cast,seval,l44r0,l44r1,l44r2,l44r3,l44r4a,l44r4b,l44r4,l44r5,l44r6,List.take_succ_cons,List.take_zero,List.drop_succ_cons,List.drop_zero,nth]
      (repeat' (first
 | (first|refine Apz ?_|refine Aiz ?_)
 | ((first|refine Aqz ?_|refine Ahz ?_|refine Ajz ?_|refine Akz ?_);simp (disch:=omega) only [push_cast,seval,l44r0,l44r1,l44r2,l44r3,l44r4a,l44r4b,l44r4,l44r5,l44r6,hlt,hel,Aaz])
 | ((first|refine Acz ?_ ?_|refine Agz ?_ ?_|refine Afz ?_ ?_)<;>intro h<;>(try simp only [h])<;>(try simp only [bitvec_to_nat] at h)<;>(try simp only [h])<;>(first|(exfalso;omega)|(exfalso;simp_all;done)|(simp (disch:=omega) only [push_cast,seval,hlt,hel,Aaz])|skip))
 | ((first|((with_reducible refine Azz (f:=60) [0,9000,9001] true ?_);simp (disch:=omega) only [push_cast,seval,hlt,hel,Aaz];(refine G0z (by decide) (Dez _ _ _ _ _ _ ?_ ?_ ?_ ?_ ?_) (by (simp (disch:=omega) only [push_cast,seval,hlt,hel,Aaz])<;>rfl) ?_;(iterate 5 (exact sd));rintro _ _ ⟨kA,nums,pA,hkA,hpA,rfl,rfl⟩))|((with_reducible refine Bxz (f:=60) [0,9000,9001] true ?_);simp (disch:=omega) only [push_cast,seval,hlt,hel,Aaz];(refine Laz (by decide) (Dez _ _ _ _ _ _ ?_ ?_ ?_ ?_ ?_) (by (simp (disch:=omega) only [push_cast,seval,hlt,hel,Aaz])<;>rfl) (by decide) ⟨_,_,0,[0],_,.inl ⟨rfl,0,rfl⟩,⟨Int.le_refl _,by omega⟩,rfl,rfl⟩ ?_;(iterate 5 (exact sd));rintro _ _ ⟨kA,nums,pA,hkA,hpA,rfl,rfl⟩))|((with_reducible refine Azz (f:=59) [9000,9001,320] true ?_);simp (disch:=omega) only [push_cast,seval,hlt,hel,Aaz];(refine G0z (by decide) (I2z _ _ _ _ _ _ _ ?_ ?_ ?_ ?_ ?_) (by (simp (disch:=omega) only [push_cast,seval,hlt,hel,Aaz])<;>rfl) ?_;(iterate 5 (exact sd));rintro _ _ (⟨sa,rfl,rfl⟩|⟨csA,esA,sa,hvA,rfl,rfl⟩))))<;>(try simp (disch:=omega) only [push_cast,seval,hlt,hel,Aaz]))
 | ((first|refine Arz false ?_|refine Anz false ?_);simp (disch:=omega) only [push_cast,seval,hlt,hel,Aaz])
 | ((first|((first|refine Adz (Dgz _) ?_|refine Abz (Dgz _) ⟨_,_,rfl,rfl⟩ ?_);rintro _ _ ⟨rfl,rfl⟩))<;>(try simp (disch:=omega) only [push_cast,seval,hlt,hel,Aaz]))))
      · exact ⟨(cs,es,false,n - 1,pA),⟨hv,by simp only;omega,by simp only;omega,by simp only;omega⟩,by simp only;omega,SubW.of (by (refine Sub.of_lists ?_ ?_ ?_ ?_ ?_<;>simp [Vw.mkS,Vw.lk,Vw.hk,AV.inn,innL,Awz,Atz,Ayz,-List.map_set,-List.getD_eq_getElem?_getD,Aaz]))⟩
      · refine ⟨(csA,esA,true,n - 1,pA),⟨hvA,by simp only;omega,by simp only;omega,by simp only;omega⟩,by simp only;omega,?_⟩
        refine SubW.mk2 336 9000 337 9001 (by omega) ?_
        simp only [List.map_cons,List.map_nil,AV.sw,swL,K0z,Iiz,swp,↓reduceIte,Nat.reduceEqDiff]
        (refine Sub.of_lists ?_ ?_ ?_ ?_ ?_<;>simp [Vw.mkS,Vw.lk,Vw.hk,AV.inn,innL,Awz,Atz,Ayz,-List.map_set,-List.getD_eq_getElem?_getD,Aaz])
    · (repeat' (first
 | (first|refine Apz ?_|refine Aiz ?_)
 | ((first|refine Aqz ?_|refine Ahz ?_|refine Ajz ?_|refine Akz ?_);simp (disch:=omega) only [push_cast,seval,l44r0,l44r1,l44r2,l44r3,l44r4a,l44r4b,l44r4,l44r5,l44r6,hlt,hel,Aaz])
 | ((first|refine Acz ?_ ?_|refine Agz ?_ ?_|refine Afz ?_ ?_)<;>intro h<;>(try simp only [h])<;>(try simp only [bitvec_to_nat] at h)<;>(try simp only [h])<;>(first|(exfalso;omega)|(exfalso;simp_all;done)|(simp (disch:=omega) only [push_cast,seval,hlt,hel,Aaz])|skip))
 | ((first|((with_reducible refine Azz (f:=41) (args:=[Operand.tmp 5,Operand.tmp 6]) [0,96] true ?_);simp (disch:=omega) only [push_cast,seval,hlt,hel,Aaz];(refine Czz (id:=0) (id':=96) (by decide) (Eez _ _ _ _ ?_ ?_ ?_ ?_ ?_) (by (simp (disch:=omega) only [push_cast,seval,hlt,hel,Aaz])<;>rfl) (by (simp (disch:=omega) only [push_cast,seval,hlt,hel,Aaz])<;>rfl) ?_;(iterate 5 (exact sd));rintro _ _ ⟨x,hx,hx0,rfl,rfl⟩))|((with_reducible refine Azz (f:=41) (args:=[Operand.tmp 9,Operand.tmp 10]) [0,160] true ?_);simp (disch:=omega) only [push_cast,seval,hlt,hel,Aaz];(refine Czz (id:=0) (id':=160) (by decide) (Eez _ _ _ _ ?_ ?_ ?_ ?_ ?_) (by (simp (disch:=omega) only [push_cast,seval,hlt,hel,Aaz])<;>rfl) (by (simp (disch:=omega) only [push_cast,seval,hlt,hel,Aaz])<;>rfl) ?_;(iterate 5 (exact sd));rintro _ _ ⟨x,hx,hx0,rfl,rfl⟩))|((with_reducible refine Azz (f:=41) [0] true ?_);simp (disch:=omega) only [push_cast,seval,hlt,hel,Aaz];(refine Dpz (id:=0) (C8z _ _ _ _ ?_ ?_ ?_ ?_ ?_) (by (simp (disch:=omega) only [push_cast,seval,hlt,hel,Aaz])<;>rfl) ?_;(iterate 5 (exact sd));rintro _ _ ⟨x,hx,hx0,rfl,rfl⟩))|((with_reducible refine Bxz (f:=41) [0] true ?_);simp (disch:=omega) only [push_cast,seval,hlt,hel,Aaz];(refine Dbz (id:=0) (C8z _ _ _ _ ?_ ?_ ?_ ?_ ?_) (by (simp (disch:=omega) only [push_cast,seval,hlt,hel,Aaz])<;>rfl) (by decide) (by simp only [Djz,Ekz];exact ⟨_,_,_,List.mem_cons_self,by omega,rfl,rfl⟩) ?_;(iterate 5 (exact sd));rintro _ _ ⟨x,hx,hx0,rfl,rfl⟩))|((with_reducible refine Azz (f:=60) [0,9000,9001] true ?_);simp (disch:=omega) only [push_cast,seval,hlt,hel,Aaz];(refine G0z (by decide) (Dez _ _ _ _ _ _ ?_ ?_ ?_ ?_ ?_) (by (simp (disch:=omega) only [push_cast,seval,hlt,hel,Aaz])<;>rfl) ?_;(iterate 5 (exact sd));rintro _ _ ⟨kA,nums,pA,hkA,hpA,rfl,rfl⟩))|((with_reducible refine Bxz (f:=60) [0,9000,9001] true ?_);simp (disch:=omega) only [push_cast,seval,hlt,hel,Aaz];(refine Laz (by decide) (Dez _ _ _ _ _ _ ?_ ?_ ?_ ?_ ?_) (by (simp (disch:=omega) only [push_cast,seval,hlt,hel,Aaz])<;>rfl) (by decide) ⟨_,_,0,[0],_,.inl ⟨rfl,0,rfl⟩,⟨Int.le_refl _,by omega⟩,rfl,rfl⟩ ?_;(iterate 5 (exact sd));rintro _ _ ⟨kA,nums,pA,hkA,hpA,rfl,rfl⟩))|((with_reducible refine Azz (f:=59) [9000,9001,320] true ?_);simp (disch:=omega) only [push_cast,seval,hlt,hel,Aaz];(refine G0z (by decide) (I2z _ _ _ _ _ _ _ ?_ ?_ ?_ ?_ ?_) (by (simp (disch:=omega) only [push_cast,seval,hlt,hel,Aaz])<;>rfl) ?_;(iterate 5 (exact sd));rintro _ _ (⟨sa,rfl,rfl⟩|⟨csA,esA,sa,hvA,rfl,rfl⟩))))<;>(try simp (disch:=omega) only [push_cast,seval,hlt,hel,Aaz]))
 | ((first|refine Arz false ?_|refine Anz false ?_);simp (disch:=omega) only [push_cast,seval,hlt,hel,Aaz])
 | ((first|((first|refine Adz (Dgz _) ?_|refine Abz (Dgz _) ⟨_,_,rfl,rfl⟩ ?_);rintro _ _ ⟨rfl,rfl⟩))<;>(try simp (disch:=omega) only [push_cast,seval,hlt,hel,Aaz]))
 | (refine Amz ⟨.inr rfl,[9000,9001],[],_,by decide,rfl,?_⟩;(try simp (disch:=omega) only [push_cast,seval,↓Aoz,↓Alz,↓List.map_cons,↓List.map_nil,hlt,hel,Aaz]))))
      all_goals exact ⟨_,_,_,_,hv,J9z hv,by omega,rfl,rfl⟩

end Go.Proofs.YtkpcjppnjmhanaaDoor
