/- Texts of this verifier. -/
import Derived.Test.YtpicoecbbiiaoaaCB3
import Derived.Test.YtpicoecbbiiaoaaCM1
import Derived.Test.YtpicoecbbiiaoaaCW3
set_option linter.unusedSimpArgs false
set_option linter.unusedVariables false
set_option maxRecDepth 4000
set_option maxHeartbeats 4000000
namespace Go.Proofs.Ytpicoecbbiiaoaa
open VwM Vw Go

def exP (ts:List Tn) (ls:List (List Int)) (out:List Int):Option (List Int):=if (decide (1 ≤ ts.length) && decide (ts.length ≤ 3) && decide (ls.length=ts.length) && allI out 0 4)=true then agO ts ls else none
theorem exP_no {ts:List Tn} {ls:List (List Int)} {out:List Int} (h:(decide (1 ≤ ts.length) && decide (ts.length ≤ 3) && decide (ls.length=ts.length) && allI out 0 4)=false):exP ts ls out=none:=by unfold exP;rw [h];rfl
theorem exP_yes {ts:List Tn} {ls:List (List Int)} {out:List Int} (h:(decide (1 ≤ ts.length) && decide (ts.length ≤ 3) && decide (ls.length=ts.length) && allI out 0 4)=true):exP ts ls out=agO ts ls:=by unfold exP;rw [h];rfl
theorem Bvz {α:Type} {e:List Int} (h:e.length=5) (a b:α):(if e.length=5 then a else b)=a:=if_pos h


set_option maxHeartbeats 16000000 in
theorem Bwz (ts:List Tn) (ls:List (List Int)) (out:List Int) (n m q:Nat) (hn:ts.length=n) (hm:ls.length=m) (hq:out.length=q) (hb:n ≤ 1099511627776 ∧ m ≤ 1099511627776 ∧ q ≤ 1099511627776 ∧ (∀ t ∈ ts,t.1.length ≤ 1099511627776 ∧ t.2.length ≤ 1099511627776) ∧ ∀ l ∈ ls,l.length ≤ 1099511627776) :
    PCall Try.prog 51 [.rows false (TL false ts) n,.rows false (LL false ls) m,.rows false (IL out) q] (fun r=>∃ g:List Int,((exP ts ls out).getD g).length=5 ∧ r=.tup [.agg (IL ((exP ts ls out).getD g)),.bool (exP ts ls out).isSome]):=by
  subst hn hm hq
  obtain ⟨hb0,hb1,hb2,hb3,hb4⟩:=hb
  have hb3':∀ (a b:List Int),(a,b) ∈ ts → a.length ≤ 1099511627776 ∧ b.length ≤ 1099511627776:=fun a b h=>hb3 _ h
  refine A0z l51_eq rfl ?_
  have htl:=Bbz false ts
  have hll:=Bcz false ls
  have s0:=set5 (e:=ext0) rfl
  have l0:=Cfz
  by_cases h1:(ts.length:Int) < 1
  · have hno:=exP_no (ts:=ts) (ls:=ls) (out:=out) (by simp;omega)
    rw [hno]
    (repeat' (first
 | (first|refine Akz ?_|refine Agz ?_)
 | ((first|refine Alz ?_|refine Afz ?_|refine Ahz ?_|refine Aiz ?_);simp (disch:=omega) only [push_cast,seval,l51r0,l51r1,l51r2,l51r3,h1,s0,l0,Acz,Aaz])
 | ((first|refine Abz ?_ ?_|refine Aez ?_ ?_|refine Adz ?_ ?_)<;>intro h<;>(try simp only [h])<;>(try simp only [bitvec_to_nat] at h)<;>(try simp only [h])<;>(first|(exfalso;omega)|(exfalso;simp_all;done)|(simp (disch:=omega) only [push_cast,seval,h1,s0,l0,Acz,Aaz])|skip))
 | ((first|refine Aoz false ?_|refine qcallD_of false ?_);simp (disch:=omega) only [push_cast,seval,h1,s0,l0,Acz,Aaz])
 | ((first|((first|refine call0D (BCall.ofP (ivL_ok _ _ ?_ ?_)) ?_|refine qcall0D (BCall.ofP (ivL_ok _ _ ?_ ?_)) ⟨_,_,rfl,rfl⟩ ?_);(iterate 2 (exact sd));rintro _ _ ⟨rfl,rfl⟩)|((first|refine call0D (BCall.ofP (unused_ok)) ?_|refine qcall0D (BCall.ofP (unused_ok)) ⟨_,_,rfl,rfl⟩ ?_);rintro _ _ ⟨rfl,rfl⟩)|(refine call0D (BCall.ofP (agreed_ok _ _ _ _ ?_ ?_ ?_)) ?_;(iterate 3 (exact sd));rintro _ _ ⟨⟨g,hg5,rfl⟩,rfl⟩))<;>(try simp (disch:=omega) only [push_cast,seval,h1,s0,l0,Acz,Aaz]))
 | ((first|refine Ajz ⟨.inr rfl,_,rfl,?_⟩|refine Ajz ⟨.inr rfl,_,Biz rfl rfl (by assumption) rfl,?_⟩);(try simp (disch:=omega) only [push_cast,seval,h1,s0,l0,Acz,Aaz]))))
    all_goals exact ⟨ext0,rfl,rfl⟩
  · by_cases h2:(3:Int) < (ts.length:Int)
    · have hno:=exP_no (ts:=ts) (ls:=ls) (out:=out) (by simp;omega)
      rw [hno]
      (repeat' (first
 | (first|refine Akz ?_|refine Agz ?_)
 | ((first|refine Alz ?_|refine Afz ?_|refine Ahz ?_|refine Aiz ?_);simp (disch:=omega) only [push_cast,seval,l51r0,l51r1,l51r2,l51r3,h1,h2,s0,l0,Acz,Aaz])
 | ((first|refine Abz ?_ ?_|refine Aez ?_ ?_|refine Adz ?_ ?_)<;>intro h<;>(try simp only [h])<;>(try simp only [bitvec_to_nat] at h)<;>(try simp only [h])<;>(first|(exfalso;omega)|(exfalso;simp_all;done)|(simp (disch:=omega) only [push_cast,seval,h1,h2,s0,l0,Acz,Aaz])|skip))
 | ((first|refine Aoz false ?_|refine qcallD_of false ?_);simp (disch:=omega) only [push_cast,seval,h1,h2,s0,l0,Acz,Aaz])
 | ((first|((first|refine call0D (BCall.ofP (ivL_ok _ _ ?_ ?_)) ?_|refine qcall0D (BCall.ofP (ivL_ok _ _ ?_ ?_)) ⟨_,_,rfl,rfl⟩ ?_);(iterate 2 (exact sd));rintro _ _ ⟨rfl,rfl⟩)|((first|refine call0D (BCall.ofP (unused_ok)) ?_|refine qcall0D (BCall.ofP (unused_ok)) ⟨_,_,rfl,rfl⟩ ?_);rintro _ _ ⟨rfl,rfl⟩)|(refine call0D (BCall.ofP (agreed_ok _ _ _ _ ?_ ?_ ?_)) ?_;(iterate 3 (exact sd));rintro _ _ ⟨⟨g,hg5,rfl⟩,rfl⟩))<;>(try simp (disch:=omega) only [push_cast,seval,h1,h2,s0,l0,Acz,Aaz]))
 | ((first|refine Ajz ⟨.inr rfl,_,rfl,?_⟩|refine Ajz ⟨.inr rfl,_,Biz rfl rfl (by assumption) rfl,?_⟩);(try simp (disch:=omega) only [push_cast,seval,h1,h2,s0,l0,Acz,Aaz]))))
      all_goals exact ⟨ext0,rfl,rfl⟩
    · by_cases h3:ls.length=ts.length
      · have h3':(ls.length:Int)=ts.length:=by omega
        cases h4:allI out 0 4 with
        | false =>
          have hno:=exP_no (ts:=ts) (ls:=ls) (out:=out) (by simp [h4])
          rw [hno]
          (repeat' (first
 | (first|refine Akz ?_|refine Agz ?_)
 | ((first|refine Alz ?_|refine Afz ?_|refine Ahz ?_|refine Aiz ?_);simp (disch:=omega) only [push_cast,seval,l51r0,l51r1,l51r2,l51r3,h1,h2,h3',h4,s0,l0,Acz,Aaz])
 | ((first|refine Abz ?_ ?_|refine Aez ?_ ?_|refine Adz ?_ ?_)<;>intro h<;>(try simp only [h])<;>(try simp only [bitvec_to_nat] at h)<;>(try simp only [h])<;>(first|(exfalso;omega)|(exfalso;simp_all;done)|(simp (disch:=omega) only [push_cast,seval,h1,h2,h3',h4,s0,l0,Acz,Aaz])|skip))
 | ((first|refine Aoz false ?_|refine qcallD_of false ?_);simp (disch:=omega) only [push_cast,seval,h1,h2,h3',h4,s0,l0,Acz,Aaz])
 | ((first|((first|refine call0D (BCall.ofP (ivL_ok _ _ ?_ ?_)) ?_|refine qcall0D (BCall.ofP (ivL_ok _ _ ?_ ?_)) ⟨_,_,rfl,rfl⟩ ?_);(iterate 2 (exact sd));rintro _ _ ⟨rfl,rfl⟩)|((first|refine call0D (BCall.ofP (unused_ok)) ?_|refine qcall0D (BCall.ofP (unused_ok)) ⟨_,_,rfl,rfl⟩ ?_);rintro _ _ ⟨rfl,rfl⟩)|(refine call0D (BCall.ofP (agreed_ok _ _ _ _ ?_ ?_ ?_)) ?_;(iterate 3 (exact sd));rintro _ _ ⟨⟨g,hg5,rfl⟩,rfl⟩))<;>(try simp (disch:=omega) only [push_cast,seval,h1,h2,h3',h4,s0,l0,Acz,Aaz]))
 | ((first | refine Ajz ⟨.inr rfl,_,rfl,?_⟩ | refine Ajz ⟨.inr rfl,_,Biz rfl rfl (by assumption) rfl,?_⟩); (try simp (disch := omega) only [push_cast,seval,h1,h2,h3',h4,s0,l0,Acz,Aaz]))))
          all_goals exact ⟨ext0,rfl,rfl⟩
        | true =>
          rw [exP_yes (by simp [h3,h4];omega)]
          have q1:ls.length=ts.length ∧ ts.length ≤ 1099511627776 ∧ (∀ t ∈ ts,t.1.length ≤ 1099511627776 ∧ t.2.length ≤ 1099511627776) ∧ ∀ l ∈ ls,l.length ≤ 1099511627776:=⟨h3,hb0,hb3,hb4⟩
          (repeat' (first
 | (first|refine Akz ?_|refine Agz ?_)
 | ((first|refine Alz ?_|refine Afz ?_|refine Ahz ?_|refine Aiz ?_);simp (disch:=omega) only [push_cast,seval,l51r0,l51r1,l51r2,l51r3,h1,h2,h3',h4,set5,tak5,Bvz,Acz,Aaz])
 | ((first|refine Abz ?_ ?_|refine Aez ?_ ?_|refine Adz ?_ ?_)<;>intro h<;>(try simp only [h])<;>(try simp only [bitvec_to_nat] at h)<;>(try simp only [h])<;>(first|(exfalso;omega)|(exfalso;simp_all;done)|(simp (disch:=omega) only [push_cast,seval,h1,h2,h3',h4,set5,tak5,Bvz,Acz,Aaz])|skip))
 | ((first|refine Aoz false ?_|refine qcallD_of false ?_);simp (disch:=omega) only [push_cast,seval,h1,h2,h3',h4,set5,tak5,Bvz,Acz,Aaz])
 | ((first|((first|refine call0D (BCall.ofP (ivL_ok _ _ ?_ ?_)) ?_|refine qcall0D (BCall.ofP (ivL_ok _ _ ?_ ?_)) ⟨_,_,rfl,rfl⟩ ?_);(iterate 2 (exact sd));rintro _ _ ⟨rfl,rfl⟩)|((first|refine call0D (BCall.ofP (unused_ok)) ?_|refine qcall0D (BCall.ofP (unused_ok)) ⟨_,_,rfl,rfl⟩ ?_);rintro _ _ ⟨rfl,rfl⟩)|(refine call0D (BCall.ofP (agreed_ok _ _ _ _ ?_ ?_ ?_)) ?_;(iterate 3 (exact sd));rintro _ _ ⟨⟨g,hg5,rfl⟩,rfl⟩))<;>(try simp (disch:=omega) only [push_cast,seval,h1,h2,h3',h4,set5,tak5,Bvz,Acz,Aaz]))
 | ((first | refine Ajz ⟨.inr rfl,_,rfl,?_⟩ | refine Ajz ⟨.inr rfl,_,Biz rfl rfl (by assumption) rfl,?_⟩); (try simp (disch := omega) only [push_cast,seval,h1,h2,h3',h4,set5,tak5,Bvz,Acz,Aaz]))))
          all_goals exact ⟨g,hg5,rfl⟩
      · have h3':¬ (ls.length:Int)=ts.length:=by omega
        have hno:=exP_no (ts:=ts) (ls:=ls) (out:=out) (by simp [h3])
        rw [hno]
        (repeat' (first
 | (first|refine Akz ?_|refine Agz ?_)
 | ((first|refine Alz ?_|refine Afz ?_|refine Ahz ?_|refine Aiz ?_);simp (disch:=omega) only [push_cast,seval,l51r0,l51r1,l51r2,l51r3,h1,h2,h3',s0,l0,Acz,Aaz])
 | ((first|refine Abz ?_ ?_|refine Aez ?_ ?_|refine Adz ?_ ?_)<;>intro h<;>(try simp only [h])<;>(try simp only [bitvec_to_nat] at h)<;>(try simp only [h])<;>(first|(exfalso;omega)|(exfalso;simp_all;done)|(simp (disch:=omega) only [push_cast,seval,h1,h2,h3',s0,l0,Acz,Aaz])|skip))
 | ((first|refine Aoz false ?_|refine qcallD_of false ?_);simp (disch:=omega) only [push_cast,seval,h1,h2,h3',s0,l0,Acz,Aaz])
 | ((first|((first|refine call0D (BCall.ofP (ivL_ok _ _ ?_ ?_)) ?_|refine qcall0D (BCall.ofP (ivL_ok _ _ ?_ ?_)) ⟨_,_,rfl,rfl⟩ ?_);(iterate 2 (exact sd));rintro _ _ ⟨rfl,rfl⟩)|((first|refine call0D (BCall.ofP (unused_ok)) ?_|refine qcall0D (BCall.ofP (unused_ok)) ⟨_,_,rfl,rfl⟩ ?_);rintro _ _ ⟨rfl,rfl⟩)|(refine call0D (BCall.ofP (agreed_ok _ _ _ _ ?_ ?_ ?_)) ?_;(iterate 3 (exact sd));rintro _ _ ⟨⟨g,hg5,rfl⟩,rfl⟩))<;>(try simp (disch:=omega) only [push_cast,seval,h1,h2,h3',s0,l0,Acz,Aaz]))
 | ((first|refine Ajz ⟨.inr rfl,_,rfl,?_⟩|refine Ajz ⟨.inr rfl,_,Biz rfl rfl (by assumption) rfl,?_⟩);(try simp (disch:=omega) only [push_cast,seval,h1,h2,h3',s0,l0,Acz,Aaz]))))
        all_goals exact ⟨ext0,rfl,rfl⟩
theorem extentsOfN_ok (ts:List Tn) (ls:List (List Int)) (n m:Nat) (hn:ts.length=n) (hm:ls.length=m) (hb:n ≤ 1099511627776 ∧ m ≤ 1099511627776 ∧ (∀ t ∈ ts,t.1.length ≤ 1099511627776 ∧ t.2.length ≤ 1099511627776) ∧ ∀ l ∈ ls,l.length ≤ 1099511627776) :
    PCall Try.prog 51 [.rows false (TL false ts) n,.rows false (LL false ls) m,.rows false [] 0] (fun r=>∃ g:List Int,((exP ts ls []).getD g).length=5 ∧ r=.tup [.agg (IL ((exP ts ls []).getD g)),.bool (exP ts ls []).isSome]) :=
  Bwz ts ls [] n m 0 hn hm rfl ⟨hb.1,hb.2.1,by omega,hb.2.2.1,hb.2.2.2⟩


set_option maxHeartbeats 16000000 in
theorem labelsOf_ok (ls:List (List Int)) (n:Nat) (hn:ls.length=n) (hb:n ≤ 1099511627776 ∧ (∀ l ∈ ls,l.length ≤ 1099511627776) ∧ ∀ l ∈ ls,∀ x ∈ l,0 ≤ x ∧ x ≤ 4):BCall Try.prog 59 [.rows false (LL false ls) n] [] (OI (lbS ls.flatten)):=by
  subst hn
  obtain ⟨hb0,hb1,hb2⟩:=hb
  have hll:=Bcz false ls
  refine A5z (pins:=[]) (pin:=0) l59_eq rfl rfl rfl ?_
  (repeat' (first
 | (first|refine Akz ?_|refine Agz ?_)
 | ((first|refine Alz ?_|refine Afz ?_|refine Ahz ?_|refine Aiz ?_);simp (disch:=omega) only [push_cast,seval,l59r0,l59r1,l59r2,l59r3,l59r4,l59r5,l59r6,l59r7,l59r8,l59r9,l59r10,l59r11,l59r12,l59r13,l59r14,l59r15,l59r16,l59r17,l59r18,Aaz])
 | ((first|refine Abz ?_ ?_|refine Aez ?_ ?_|refine Adz ?_ ?_)<;>intro h<;>(try simp only [h])<;>(try simp only [bitvec_to_nat] at h)<;>(try simp only [h])<;>(first|(exfalso;omega)|(exfalso;simp_all;done)|(simp (disch:=omega) only [push_cast,seval,Aaz])|skip))
 | ((first|(refine A3z (by kernel_rfl) (by (simp (disch:=omega) only [push_cast,seval,Aaz])<;>rfl) ?_)|(refine Axz (t:=24) (sz:=1) (zs:=[.int .i64 0]) (by kernel_rfl) (by (simp (disch:=omega) only [push_cast,seval,Aaz])<;>rfl) (by (simp (disch:=omega) only [push_cast,seval,Aaz])<;>rfl) (by first|assumption|omega|(constructor<;>omega)) (by first|((simp (disch:=omega) only [push_cast,seval,Aaz]);done)|((simp (disch:=omega) only [push_cast,seval,Aaz]);exact ⟨rfl,by omega⟩)) ?_)|(refine Axz (t:=0) (sz:=2) (zs:=[.int .i64 0,.int .i64 0]) (by kernel_rfl) (by (simp (disch:=omega) only [push_cast,seval,Aaz])<;>rfl) (by (simp (disch:=omega) only [push_cast,seval,Aaz])<;>rfl) (by first|assumption|omega|(constructor<;>omega)) (by first|((simp (disch:=omega) only [push_cast,seval,Aaz]);done)|((simp (disch:=omega) only [push_cast,seval,Aaz]);exact ⟨rfl,by omega⟩)) ?_)|(refine A6z (len:=5) (by kernel_rfl) (by (simp (disch:=omega) only [push_cast,seval,Aaz])<;>rfl) (by (simp (disch:=omega) only [push_cast,seval,Aaz])<;>rfl) (by first|assumption|omega|(constructor<;>omega)) (by first|rfl|((simp (disch:=omega) only [push_cast,seval,Aaz]);rfl)) ?_))<;>(try simp (disch:=omega) only [push_cast,seval,Aaz]))
 | (refine Ajz ⟨.inr rfl,[576],[],_,by decide,rfl,?_⟩;(try simp (disch:=omega) only [push_cast,seval,↓Arz,↓Apz,↓List.map_cons,↓List.map_nil,Aaz]))))
  have hm0:(mkL []).map AV.bool=[AV.bool false,AV.bool false,AV.bool false,AV.bool false,AV.bool false]:=mkL_nil
  refine Ayz (fun i:Nat=>mkS [(2,.val (.slice none 0 0)),(3,.ref 48 5 0),(11,.rows false (LL false ls) ls.length),(12,.int .i64 ls.length),(13,.int .i64 i)] [(48,(mkL (ls.take i).flatten).map AV.bool)]) (fun i=>i ≤ ls.length) (fun i=>ls.length - i) 0 (Nat.zero_le _) ?_ ?_
  · (refine Sub.of_lists ?_ ?_ ?_ ?_ ?_<;>simp [Vw.mkS,Vw.lk,Vw.hk,AV.inn,innL,Aqz,Amz,Asz,-List.map_set,-List.getD_eq_getElem?_getD,Aaz,hm0])
  · intro i hi
    have hml:=Iez (ls.take i).flatten
    by_cases hlt:i < ls.length
    · obtain ⟨l,hl⟩:=Cbz hlt
      have hbl:=hb1 _ (List.mem_of_getElem? hl)
      have hlx:=hb2 _ (List.mem_of_getElem? hl)
      have hd2:=C4z false ls i hl
      have hil2:i + 1 ≤ ls.length:=by omega
      have hfl:(ls.take (i + 1)).flatten=(ls.take i).flatten ++ l:=by rw [List.take_add_one,hl];simp
      (repeat' (first
 | (first|refine Akz ?_|refine Agz ?_)
 | ((first|refine Alz ?_|refine Afz ?_|refine Ahz ?_|refine Aiz ?_);simp (disch:=omega) only [push_cast,seval,l59r0,l59r1,l59r2,l59r3,l59r4,l59r5,l59r6,l59r7,l59r8,l59r9,l59r10,l59r11,l59r12,l59r13,l59r14,l59r15,l59r16,l59r17,l59r18,hd2,hll,hil2,Aaz])
 | ((first|refine Abz ?_ ?_|refine Aez ?_ ?_|refine Adz ?_ ?_)<;>intro h<;>(try simp only [h])<;>(try simp only [bitvec_to_nat] at h)<;>(try simp only [h])<;>(first|(exfalso;omega)|(exfalso;simp_all;done)|(simp (disch:=omega) only [push_cast,seval,hd2,hll,hil2,Aaz])|skip))
 | ((first|(refine A3z (by kernel_rfl) (by (simp (disch:=omega) only [push_cast,seval,hd2,hll,hil2,Aaz])<;>rfl) ?_)|(refine Axz (t:=24) (sz:=1) (zs:=[.int .i64 0]) (by kernel_rfl) (by (simp (disch:=omega) only [push_cast,seval,hd2,hll,hil2,Aaz])<;>rfl) (by (simp (disch:=omega) only [push_cast,seval,hd2,hll,hil2,Aaz])<;>rfl) (by first|assumption|omega|(constructor<;>omega)) (by first|((simp (disch:=omega) only [push_cast,seval,hd2,hll,hil2,Aaz]);done)|((simp (disch:=omega) only [push_cast,seval,hd2,hll,hil2,Aaz]);exact ⟨rfl,by omega⟩)) ?_)|(refine Axz (t:=0) (sz:=2) (zs:=[.int .i64 0,.int .i64 0]) (by kernel_rfl) (by (simp (disch:=omega) only [push_cast,seval,hd2,hll,hil2,Aaz])<;>rfl) (by (simp (disch:=omega) only [push_cast,seval,hd2,hll,hil2,Aaz])<;>rfl) (by first|assumption|omega|(constructor<;>omega)) (by first|((simp (disch:=omega) only [push_cast,seval,hd2,hll,hil2,Aaz]);done)|((simp (disch:=omega) only [push_cast,seval,hd2,hll,hil2,Aaz]);exact ⟨rfl,by omega⟩)) ?_)|(refine A6z (len:=5) (by kernel_rfl) (by (simp (disch:=omega) only [push_cast,seval,hd2,hll,hil2,Aaz])<;>rfl) (by (simp (disch:=omega) only [push_cast,seval,hd2,hll,hil2,Aaz])<;>rfl) (by first|assumption|omega|(constructor<;>omega)) (by first|rfl|((simp (disch:=omega) only [push_cast,seval,hd2,hll,hil2,Aaz]);rfl)) ?_))<;>(try simp (disch:=omega) only [push_cast,seval,hd2,hll,hil2,Aaz]))
 | (refine Ajz ⟨.inr rfl,[576],[],_,by decide,rfl,?_⟩;(try simp (disch:=omega) only [push_cast,seval,↓Arz,↓Apz,↓List.map_cons,↓List.map_nil,hd2,hll,hil2,Aaz]))))
      refine Ayz (fun j:Nat=>mkS [(2,.val (.slice none 0 0)),(3,.ref 48 5 0),(11,.rows false (LL false ls) ls.length),(12,.int .i64 ls.length),(13,.int .i64 i),(17,RI l),(18,.int .i64 l.length),(19,.int .i64 j)] [(48,(mkL ((ls.take i).flatten ++ l.take j)).map AV.bool)]) (fun j=>j ≤ l.length) (fun j=>l.length - j) 0 (Nat.zero_le _) ?_ ?_
      · (refine Sub.of_lists ?_ ?_ ?_ ?_ ?_<;>simp [Vw.mkS,Vw.lk,Vw.hk,AV.inn,innL,Aqz,Amz,Asz,-List.map_set,-List.getD_eq_getElem?_getD,Aaz,Cez])
      · intro j hj
        have hml2:=Iez ((ls.take i).flatten ++ l.take j)
        by_cases hjl:j < l.length
        · have hk:=hlx _ (A9z (xs:=l) hjl)
          obtain ⟨c,hc⟩:∃ c:Nat,l.getD j 0=c:=⟨(l.getD j 0).toNat,by omega⟩
          have hc5:c < 5:=by omega
          have hs:=mkL_set (L:=(ls.take i).flatten ++ l.take j) (c:=c) (by omega)
          rw [Int.toNat_natCast,List.append_assoc,← hc,← Bkz l j hjl] at hs
          (repeat' (first
 | (first|refine Akz ?_|refine Agz ?_)
 | ((first|refine Alz ?_|refine Afz ?_|refine Ahz ?_|refine Aiz ?_);simp (disch:=omega) only [push_cast,seval,l59r0,l59r1,l59r2,l59r3,l59r4,l59r5,l59r6,l59r7,l59r8,l59r9,l59r10,l59r11,l59r12,l59r13,l59r14,l59r15,l59r16,l59r17,l59r18,hd2,hll,hil2,hc,hml2,List.length_map,Aaz])
 | ((first|refine Abz ?_ ?_|refine Aez ?_ ?_|refine Adz ?_ ?_)<;>intro h<;>(try simp only [h])<;>(try simp only [bitvec_to_nat] at h)<;>(try simp only [h])<;>(first|(exfalso;omega)|(exfalso;simp_all;done)|(simp (disch:=omega) only [push_cast,seval,hd2,hll,hil2,hc,hml2,List.length_map,Aaz])|skip))
 | ((first|(refine A3z (by kernel_rfl) (by (simp (disch:=omega) only [push_cast,seval,hd2,hll,hil2,hc,hml2,List.length_map,Aaz])<;>rfl) ?_)|(refine Axz (t:=24) (sz:=1) (zs:=[.int .i64 0]) (by kernel_rfl) (by (simp (disch:=omega) only [push_cast,seval,hd2,hll,hil2,hc,hml2,List.length_map,Aaz])<;>rfl) (by (simp (disch:=omega) only [push_cast,seval,hd2,hll,hil2,hc,hml2,List.length_map,Aaz])<;>rfl) (by first|assumption|omega|(constructor<;>omega)) (by first|((simp (disch:=omega) only [push_cast,seval,hd2,hll,hil2,hc,hml2,List.length_map,Aaz]);done)|((simp (disch:=omega) only [push_cast,seval,hd2,hll,hil2,hc,hml2,List.length_map,Aaz]);exact ⟨rfl,by omega⟩)) ?_)|(refine Axz (t:=0) (sz:=2) (zs:=[.int .i64 0,.int .i64 0]) (by kernel_rfl) (by (simp (disch:=omega) only [push_cast,seval,hd2,hll,hil2,hc,hml2,List.length_map,Aaz])<;>rfl) (by (simp (disch:=omega) only [push_cast,seval,hd2,hll,hil2,hc,hml2,List.length_map,Aaz])<;>rfl) (by first|assumption|omega|(constructor<;>omega)) (by first|((simp (disch:=omega) only [push_cast,seval,hd2,hll,hil2,hc,hml2,List.length_map,Aaz]);done)|((simp (disch:=omega) only [push_cast,seval,hd2,hll,hil2,hc,hml2,List.length_map,Aaz]);exact ⟨rfl,by omega⟩)) ?_)|(refine A6z (len:=5) (by kernel_rfl) (by (simp (disch:=omega) only [push_cast,seval,hd2,hll,hil2,hc,hml2,List.length_map,Aaz])<;>rfl) (by (simp (disch:=omega) only [push_cast,seval,hd2,hll,hil2,hc,hml2,List.length_map,Aaz])<;>rfl) (by first|assumption|omega|(constructor<;>omega)) (by first|rfl|((simp (disch:=omega) only [push_cast,seval,hd2,hll,hil2,hc,hml2,List.length_map,Aaz]);rfl)) ?_))<;>(try simp (disch:=omega) only [push_cast,seval,hd2,hll,hil2,hc,hml2,List.length_map,Aaz]))
 | (refine Ajz ⟨.inr rfl,[576],[],_,by decide,rfl,?_⟩; (try simp (disch := omega) only [push_cast,seval,↓Arz,↓Apz,↓List.map_cons,↓List.map_nil,hd2,hll,hil2,hc,hml2,List.length_map,Aaz]))))
          refine ⟨j + 1,by omega,by omega,?_⟩
          have hs2:=congrArg (List.map AV.bool) hs
          rw [List.map_set] at hs2
          (refine Sub.of_lists ?_ ?_ ?_ ?_ ?_<;>simp [Vw.mkS,Vw.lk,Vw.hk,AV.inn,innL,Aqz,Amz,Asz,-List.map_set,-List.getD_eq_getElem?_getD,hs2,Aaz,Cez])
        · have ej:j=l.length:=by omega
          have e2:(ls.take i).flatten ++ l.take j=(ls.take (i + 1)).flatten:=by rw [hfl,List.take_of_length_le (l:=l) (by omega)]
          rw [e2] at hml2 ⊢
          have hjx:¬ (j:Int) < l.length:=by omega
          (repeat' (first
 | (first|refine Akz ?_|refine Agz ?_)
 | ((first|refine Alz ?_|refine Afz ?_|refine Ahz ?_|refine Aiz ?_);simp (disch:=omega) only [push_cast,seval,l59r0,l59r1,l59r2,l59r3,l59r4,l59r5,l59r6,l59r7,l59r8,l59r9,l59r10,l59r11,l59r12,l59r13,l59r14,l59r15,l59r16,l59r17,l59r18,hd2,hll,hil2,hml2,List.length_map,Aaz])
 | ((first|refine Abz ?_ ?_|refine Aez ?_ ?_|refine Adz ?_ ?_)<;>intro h<;>(try simp only [h])<;>(try simp only [bitvec_to_nat] at h)<;>(try simp only [h])<;>(first|(exfalso;omega)|(exfalso;simp_all;done)|(simp (disch:=omega) only [push_cast,seval,hd2,hll,hil2,hml2,List.length_map,Aaz])|skip))
 | ((first|(refine A3z (by kernel_rfl) (by (simp (disch:=omega) only [push_cast,seval,hd2,hll,hil2,hml2,List.length_map,Aaz])<;>rfl) ?_)|(refine Axz (t:=24) (sz:=1) (zs:=[.int .i64 0]) (by kernel_rfl) (by (simp (disch:=omega) only [push_cast,seval,hd2,hll,hil2,hml2,List.length_map,Aaz])<;>rfl) (by (simp (disch:=omega) only [push_cast,seval,hd2,hll,hil2,hml2,List.length_map,Aaz])<;>rfl) (by first|assumption|omega|(constructor<;>omega)) (by first|((simp (disch:=omega) only [push_cast,seval,hd2,hll,hil2,hml2,List.length_map,Aaz]);done)|((simp (disch:=omega) only [push_cast,seval,hd2,hll,hil2,hml2,List.length_map,Aaz]);exact ⟨rfl,by omega⟩)) ?_)|(refine Axz (t:=0) (sz:=2) (zs:=[.int .i64 0,.int .i64 0]) (by kernel_rfl) (by (simp (disch:=omega) only [push_cast,seval,hd2,hll,hil2,hml2,List.length_map,Aaz])<;>rfl) (by (simp (disch:=omega) only [push_cast,seval,hd2,hll,hil2,hml2,List.length_map,Aaz])<;>rfl) (by first|assumption|omega|(constructor<;>omega)) (by first|((simp (disch:=omega) only [push_cast,seval,hd2,hll,hil2,hml2,List.length_map,Aaz]);done)|((simp (disch:=omega) only [push_cast,seval,hd2,hll,hil2,hml2,List.length_map,Aaz]);exact ⟨rfl,by omega⟩)) ?_)|(refine A6z (len:=5) (by kernel_rfl) (by (simp (disch:=omega) only [push_cast,seval,hd2,hll,hil2,hml2,List.length_map,Aaz])<;>rfl) (by (simp (disch:=omega) only [push_cast,seval,hd2,hll,hil2,hml2,List.length_map,Aaz])<;>rfl) (by first|assumption|omega|(constructor<;>omega)) (by first|rfl|((simp (disch:=omega) only [push_cast,seval,hd2,hll,hil2,hml2,List.length_map,Aaz]);rfl)) ?_))<;>(try simp (disch:=omega) only [push_cast,seval,hd2,hll,hil2,hml2,List.length_map,Aaz]))
 | (refine Ajz ⟨.inr rfl,[576],[],_,by decide,rfl,?_⟩; (try simp (disch := omega) only [push_cast,seval,↓Arz,↓Apz,↓List.map_cons,↓List.map_nil,hd2,hll,hil2,hml2,List.length_map,Aaz]))))
          refine ⟨i + 1,by omega,by omega,?_⟩
          (refine Sub.of_lists ?_ ?_ ?_ ?_ ?_<;>simp [Vw.mkS,Vw.lk,Vw.hk,AV.inn,innL,Aqz,Amz,Asz,-List.map_set,-List.getD_eq_getElem?_getD,Aaz,Cez])
    · have e2:ls.take i=ls:=List.take_of_length_le (by omega)
      rw [e2] at hml ⊢
      have hj5:((mkL ls.flatten).map AV.bool).take 5=(mkL ls.flatten).map AV.bool:=List.take_of_length_le (by simp [hml])
      generalize hM:ls.flatten=M at *
      (repeat' (first
 | (first|refine Akz ?_|refine Agz ?_)
 | ((first|refine Alz ?_|refine Afz ?_|refine Ahz ?_|refine Aiz ?_);simp (disch:=omega) only [push_cast,seval,l59r0,l59r1,l59r2,l59r3,l59r4,l59r5,l59r6,l59r7,l59r8,l59r9,l59r10,l59r11,l59r12,l59r13,l59r14,l59r15,l59r16,l59r17,l59r18,hml,hj5,List.length_map,Aaz])
 | ((first|refine Abz ?_ ?_|refine Aez ?_ ?_|refine Adz ?_ ?_)<;>intro h<;>(try simp only [h])<;>(try simp only [bitvec_to_nat] at h)<;>(try simp only [h])<;>(first|(exfalso;omega)|(exfalso;simp_all;done)|(simp (disch:=omega) only [push_cast,seval,hml,hj5,List.length_map,Aaz])|skip))
 | ((first|(refine A3z (by kernel_rfl) (by (simp (disch:=omega) only [push_cast,seval,hml,hj5,List.length_map,Aaz])<;>rfl) ?_)|(refine Axz (t:=24) (sz:=1) (zs:=[.int .i64 0]) (by kernel_rfl) (by (simp (disch:=omega) only [push_cast,seval,hml,hj5,List.length_map,Aaz])<;>rfl) (by (simp (disch:=omega) only [push_cast,seval,hml,hj5,List.length_map,Aaz])<;>rfl) (by first|assumption|omega|(constructor<;>omega)) (by first|((simp (disch:=omega) only [push_cast,seval,hml,hj5,List.length_map,Aaz]);done)|((simp (disch:=omega) only [push_cast,seval,hml,hj5,List.length_map,Aaz]);exact ⟨rfl,by omega⟩)) ?_)|(refine Axz (t:=0) (sz:=2) (zs:=[.int .i64 0,.int .i64 0]) (by kernel_rfl) (by (simp (disch:=omega) only [push_cast,seval,hml,hj5,List.length_map,Aaz])<;>rfl) (by (simp (disch:=omega) only [push_cast,seval,hml,hj5,List.length_map,Aaz])<;>rfl) (by first|assumption|omega|(constructor<;>omega)) (by first|((simp (disch:=omega) only [push_cast,seval,hml,hj5,List.length_map,Aaz]);done)|((simp (disch:=omega) only [push_cast,seval,hml,hj5,List.length_map,Aaz]);exact ⟨rfl,by omega⟩)) ?_)|(refine A6z (len:=5) (by kernel_rfl) (by (simp (disch:=omega) only [push_cast,seval,hml,hj5,List.length_map,Aaz])<;>rfl) (by (simp (disch:=omega) only [push_cast,seval,hml,hj5,List.length_map,Aaz])<;>rfl) (by first|assumption|omega|(constructor<;>omega)) (by first|rfl|((simp (disch:=omega) only [push_cast,seval,hml,hj5,List.length_map,Aaz]);rfl)) ?_))<;>(try simp (disch:=omega) only [push_cast,seval,hml,hj5,List.length_map,Aaz]))
 | (refine Ajz ⟨.inr rfl,[576],[],_,by decide,rfl,?_⟩;(try simp (disch:=omega) only [push_cast,seval,↓Arz,↓Apz,↓List.map_cons,↓List.map_nil,hml,hj5,List.length_map,Aaz]))))
      refine Clz (fun k:Nat=>mkS [(2,.val (.slice none 0 0)),(8,.own 576 (lbT M k).length 1),(27,.agg ((mkL M).map AV.bool)),(28,.int .i64 k)] [(576,IL (lbT M k))]) (fun k=>k ≤ 5) (fun k=>5 - k) 0 (Nat.zero_le _) ?_ ?_
      · refine SubW.adopt [8] 576 1 (by simp [Vw.hk]) (SubW.of ?_)
        simp only [adL,List.map_cons,List.map_nil,adA,List.contains_cons,List.contains_nil]
        (refine Sub.of_lists ?_ ?_ ?_ ?_ ?_<;>simp [Vw.mkS,Vw.lk,Vw.hk,AV.inn,innL,Aqz,Amz,Asz,-List.map_set,-List.getD_eq_getElem?_getD,lbT_zero,Cez])
      · intro k hk
        have hkl:=Dlz M k
        by_cases hk5:k < 5
        · have hg:=mkL_getD (L:=M) hk5
          by_cases hin:(k:Int) ∈ M
          · have hidx:((mkL M).map AV.bool)[k]?=some (.bool true):=by
              rw [List.getElem?_map]
              simp [mkL,hk5,hin]
            have e3:=lbT_yes hin
            (repeat' (first
 | (first|refine Akz ?_|refine Agz ?_)
 | ((first|refine Alz ?_|refine Afz ?_|refine Ahz ?_|refine Aiz ?_);simp (disch:=omega) only [push_cast,seval,l59r0,l59r1,l59r2,l59r3,l59r4,l59r5,l59r6,l59r7,l59r8,l59r9,l59r10,l59r11,l59r12,l59r13,l59r14,l59r15,l59r16,l59r17,l59r18,hidx,hml,List.length_map])
 | ((first|refine Abz ?_ ?_|refine Aez ?_ ?_|refine Adz ?_ ?_)<;>intro h<;>(try simp only [h])<;>(try simp only [bitvec_to_nat] at h)<;>(try simp only [h])<;>(first|(exfalso;omega)|(exfalso;simp_all;done)|(simp (disch:=omega) only [push_cast,seval,hidx,hml,List.length_map])|skip))
 | ((first|(refine A3z (by kernel_rfl) (by (simp (disch:=omega) only [push_cast,seval,hidx,hml,List.length_map])<;>rfl) ?_)|(refine Axz (t:=24) (sz:=1) (zs:=[.int .i64 0]) (by kernel_rfl) (by (simp (disch:=omega) only [push_cast,seval,hidx,hml,List.length_map])<;>rfl) (by (simp (disch:=omega) only [push_cast,seval,hidx,hml,List.length_map])<;>rfl) (by first|assumption|omega|(constructor<;>omega)) (by first|((simp (disch:=omega) only [push_cast,seval,hidx,hml,List.length_map]);done)|((simp (disch:=omega) only [push_cast,seval,hidx,hml,List.length_map]);exact ⟨rfl,by omega⟩)) ?_)|(refine Axz (t:=0) (sz:=2) (zs:=[.int .i64 0,.int .i64 0]) (by kernel_rfl) (by (simp (disch:=omega) only [push_cast,seval,hidx,hml,List.length_map])<;>rfl) (by (simp (disch:=omega) only [push_cast,seval,hidx,hml,List.length_map])<;>rfl) (by first|assumption|omega|(constructor<;>omega)) (by first|((simp (disch:=omega) only [push_cast,seval,hidx,hml,List.length_map]);done)|((simp (disch:=omega) only [push_cast,seval,hidx,hml,List.length_map]);exact ⟨rfl,by omega⟩)) ?_)|(refine A6z (len:=5) (by kernel_rfl) (by (simp (disch:=omega) only [push_cast,seval,hidx,hml,List.length_map])<;>rfl) (by (simp (disch:=omega) only [push_cast,seval,hidx,hml,List.length_map])<;>rfl) (by first|assumption|omega|(constructor<;>omega)) (by first|rfl|((simp (disch:=omega) only [push_cast,seval,hidx,hml,List.length_map]);rfl)) ?_))<;>(try simp (disch:=omega) only [push_cast,seval,hidx,hml,List.length_map]))
 | (refine Ajz ⟨.inr rfl,[576],[],_,by decide,rfl,?_⟩; (try simp (disch := omega) only [push_cast,seval,↓Arz,↓Apz,↓List.map_cons,↓List.map_nil,hidx,hml,List.length_map]))))
            refine ⟨k + 1,by omega,by omega,SubW.of ?_⟩
            (refine Sub.of_lists ?_ ?_ ?_ ?_ ?_<;>simp [Vw.mkS,Vw.lk,Vw.hk,AV.inn,innL,Aqz,Amz,Asz,-List.map_set,-List.getD_eq_getElem?_getD,e3,Cez])
          · have hidx:((mkL M).map AV.bool)[k]?=some (.bool false):=by
              rw [List.getElem?_map]
              simp [mkL,hk5,hin]
            have e3:=lbT_no hin
            (repeat' (first
 | (first|refine Akz ?_|refine Agz ?_)
 | ((first|refine Alz ?_|refine Afz ?_|refine Ahz ?_|refine Aiz ?_);simp (disch:=omega) only [push_cast,seval,l59r0,l59r1,l59r2,l59r3,l59r4,l59r5,l59r6,l59r7,l59r8,l59r9,l59r10,l59r11,l59r12,l59r13,l59r14,l59r15,l59r16,l59r17,l59r18,hidx,hml,List.length_map])
 | ((first|refine Abz ?_ ?_|refine Aez ?_ ?_|refine Adz ?_ ?_)<;>intro h<;>(try simp only [h])<;>(try simp only [bitvec_to_nat] at h)<;>(try simp only [h])<;>(first|(exfalso;omega)|(exfalso;simp_all;done)|(simp (disch:=omega) only [push_cast,seval,hidx,hml,List.length_map])|skip))
 | ((first|(refine A3z (by kernel_rfl) (by (simp (disch:=omega) only [push_cast,seval,hidx,hml,List.length_map])<;>rfl) ?_)|(refine Axz (t:=24) (sz:=1) (zs:=[.int .i64 0]) (by kernel_rfl) (by (simp (disch:=omega) only [push_cast,seval,hidx,hml,List.length_map])<;>rfl) (by (simp (disch:=omega) only [push_cast,seval,hidx,hml,List.length_map])<;>rfl) (by first|assumption|omega|(constructor<;>omega)) (by first|((simp (disch:=omega) only [push_cast,seval,hidx,hml,List.length_map]);done)|((simp (disch:=omega) only [push_cast,seval,hidx,hml,List.length_map]);exact ⟨rfl,by omega⟩)) ?_)|(refine Axz (t:=0) (sz:=2) (zs:=[.int .i64 0,.int .i64 0]) (by kernel_rfl) (by (simp (disch:=omega) only [push_cast,seval,hidx,hml,List.length_map])<;>rfl) (by (simp (disch:=omega) only [push_cast,seval,hidx,hml,List.length_map])<;>rfl) (by first|assumption|omega|(constructor<;>omega)) (by first|((simp (disch:=omega) only [push_cast,seval,hidx,hml,List.length_map]);done)|((simp (disch:=omega) only [push_cast,seval,hidx,hml,List.length_map]);exact ⟨rfl,by omega⟩)) ?_)|(refine A6z (len:=5) (by kernel_rfl) (by (simp (disch:=omega) only [push_cast,seval,hidx,hml,List.length_map])<;>rfl) (by (simp (disch:=omega) only [push_cast,seval,hidx,hml,List.length_map])<;>rfl) (by first|assumption|omega|(constructor<;>omega)) (by first|rfl|((simp (disch:=omega) only [push_cast,seval,hidx,hml,List.length_map]);rfl)) ?_))<;>(try simp (disch:=omega) only [push_cast,seval,hidx,hml,List.length_map]))
 | (refine Ajz ⟨.inr rfl,[576],[],_,by decide,rfl,?_⟩; (try simp (disch := omega) only [push_cast,seval,↓Arz,↓Apz,↓List.map_cons,↓List.map_nil,hidx,hml,List.length_map]))))
            refine ⟨k + 1,by omega,by omega,SubW.of ?_⟩
            (refine Sub.of_lists ?_ ?_ ?_ ?_ ?_<;>simp [Vw.mkS,Vw.lk,Vw.hk,AV.inn,innL,Aqz,Amz,Asz,-List.map_set,-List.getD_eq_getElem?_getD,e3,Cez])
        · have e:k=5:=by omega
          subst e
          (repeat' (first
 | (first|refine Akz ?_|refine Agz ?_)
 | ((first|refine Alz ?_|refine Afz ?_|refine Ahz ?_|refine Aiz ?_);simp (disch:=omega) only [push_cast,seval,l59r0,l59r1,l59r2,l59r3,l59r4,l59r5,l59r6,l59r7,l59r8,l59r9,l59r10,l59r11,l59r12,l59r13,l59r14,l59r15,l59r16,l59r17,l59r18,hml,List.length_map])
 | ((first|refine Abz ?_ ?_|refine Aez ?_ ?_|refine Adz ?_ ?_)<;>intro h<;>(try simp only [h])<;>(try simp only [bitvec_to_nat] at h)<;>(try simp only [h])<;>(first|(exfalso;omega)|(exfalso;simp_all;done)|(simp (disch:=omega) only [push_cast,seval,hml,List.length_map])|skip))
 | ((first|(refine A3z (by kernel_rfl) (by (simp (disch:=omega) only [push_cast,seval,hml,List.length_map])<;>rfl) ?_)|(refine Axz (t:=24) (sz:=1) (zs:=[.int .i64 0]) (by kernel_rfl) (by (simp (disch:=omega) only [push_cast,seval,hml,List.length_map])<;>rfl) (by (simp (disch:=omega) only [push_cast,seval,hml,List.length_map])<;>rfl) (by first|assumption|omega|(constructor<;>omega)) (by first|((simp (disch:=omega) only [push_cast,seval,hml,List.length_map]);done)|((simp (disch:=omega) only [push_cast,seval,hml,List.length_map]);exact ⟨rfl,by omega⟩)) ?_)|(refine Axz (t:=0) (sz:=2) (zs:=[.int .i64 0,.int .i64 0]) (by kernel_rfl) (by (simp (disch:=omega) only [push_cast,seval,hml,List.length_map])<;>rfl) (by (simp (disch:=omega) only [push_cast,seval,hml,List.length_map])<;>rfl) (by first|assumption|omega|(constructor<;>omega)) (by first|((simp (disch:=omega) only [push_cast,seval,hml,List.length_map]);done)|((simp (disch:=omega) only [push_cast,seval,hml,List.length_map]);exact ⟨rfl,by omega⟩)) ?_)|(refine A6z (len:=5) (by kernel_rfl) (by (simp (disch:=omega) only [push_cast,seval,hml,List.length_map])<;>rfl) (by (simp (disch:=omega) only [push_cast,seval,hml,List.length_map])<;>rfl) (by first|assumption|omega|(constructor<;>omega)) (by first|rfl|((simp (disch:=omega) only [push_cast,seval,hml,List.length_map]);rfl)) ?_))<;>(try simp (disch:=omega) only [push_cast,seval,hml,List.length_map]))
 | (refine Ajz ⟨.inr rfl,[576],[],_,by decide,rfl,?_⟩; (try simp (disch := omega) only [push_cast,seval,↓Arz,↓Apz,↓List.map_cons,↓List.map_nil,hml,List.length_map]))))
          all_goals (first|exact ⟨rfl,rfl⟩|skip)


set_option maxHeartbeats 8000000 in
theorem tblOf_ok (e xs:List Int) (n:Nat) (hn:xs.length=n) (hb:e.length=5 ∧ n ≤ 1099511627776 ∧ ∀ x ∈ xs,0 ≤ x ∧ x ≤ 4):BCall Try.prog 61 [.agg (IL e),.rows false (IL xs) n] [] (OI (xs.map (gE e))):=by
  subst hn
  obtain ⟨h5,hb0,hb1⟩:=hb
  refine A5z (pins:=[]) (pin:=0) l61_eq rfl rfl rfl ?_
  (repeat' (first
 | (first|refine Akz ?_|refine Agz ?_)
 | ((first|refine Alz ?_|refine Afz ?_|refine Ahz ?_|refine Aiz ?_);simp (disch:=omega) only [push_cast,seval,l61r0,l61r1,l61r2,l61r3,l61r4,l61r5,l61r6,l61r7,h5])
 | ((first|refine Abz ?_ ?_|refine Aez ?_ ?_|refine Adz ?_ ?_)<;>intro h<;>(try simp only [h])<;>(try simp only [bitvec_to_nat] at h)<;>(try simp only [h])<;>(first|(exfalso;omega)|(exfalso;simp_all;done)|(simp (disch:=omega) only [push_cast,seval,h5])|skip))
 | (refine Ajz ⟨.inr rfl,[160],[],_,by decide,rfl,?_⟩;(try simp (disch:=omega) only [push_cast,seval,↓Arz,↓Apz,↓List.map_cons,↓List.map_nil,h5]))))
  refine Ayz (fun k:Nat=>mkS [(2,.ref 32 5 0),(5,.own 160 xs.length 1),(11,RI xs),(12,.int .i64 xs.length),(13,.int .i64 k)] [(32,IL e),(160,IL (filled (fun i:Nat=>gE e (xs.getD i 0)) xs.length k))])
    (fun k=>k ≤ xs.length) (fun k=>xs.length - k) 0 (Nat.zero_le _) ?_ ?_
  · (refine Sub.of_lists ?_ ?_ ?_ ?_ ?_<;>simp [Vw.mkS,Vw.lk,Vw.hk,AV.inn,innL,Aqz,Amz,Asz,-List.map_set,-List.getD_eq_getElem?_getD,E1z])
  · intro k hk
    by_cases hlt:k < xs.length
    · have hx:=hb1 _ (A9z hlt)
      obtain ⟨c,hc⟩:∃ c:Nat,xs.getD k 0=c:=⟨(xs.getD k 0).toNat,by omega⟩
      have hc5:c < 5:=by omega
      have hs:=Ejz (fun i:Nat=>gE e (xs.getD i 0)) xs.length k hlt
      have hge:gE e (xs.getD k 0)=e.getD c 0:=by unfold gE;rw [hc,Int.toNat_natCast]
      simp only [hge] at hs
      (repeat' (first
 | (first|refine Akz ?_|refine Agz ?_)
 | ((first|refine Alz ?_|refine Afz ?_|refine Ahz ?_|refine Aiz ?_);simp (disch:=omega) only [push_cast,seval,l61r0,l61r1,l61r2,l61r3,l61r4,l61r5,l61r6,l61r7,h5,hc])
 | ((first|refine Abz ?_ ?_|refine Aez ?_ ?_|refine Adz ?_ ?_)<;>intro h<;>(try simp only [h])<;>(try simp only [bitvec_to_nat] at h)<;>(try simp only [h])<;>(first|(exfalso;omega)|(exfalso;simp_all;done)|(simp (disch:=omega) only [push_cast,seval,h5,hc])|skip))
 | (refine Ajz ⟨.inr rfl,[160],[],_,by decide,rfl,?_⟩;(try simp (disch:=omega) only [push_cast,seval,↓Arz,↓Apz,↓List.map_cons,↓List.map_nil,h5,hc]))))
      refine ⟨k + 1,by omega,by omega,?_⟩
      (refine Sub.of_lists ?_ ?_ ?_ ?_ ?_<;>simp [Vw.mkS,Vw.lk,Vw.hk,AV.inn,innL,Aqz,Amz,Asz,-List.map_set,-List.getD_eq_getElem?_getD,Boz,hs])
    · have ek:k=xs.length:=by omega
      have hfin:filled (fun i:Nat=>gE e (xs.getD i 0)) xs.length xs.length=xs.map (gE e):=by
        rw [F2z]
        have:=congrArg (List.map (gE e)) (Hqz xs)
        rw [List.map_map] at this
        exact this
      rw [ek,hfin]
      (repeat' (first
 | (first|refine Akz ?_|refine Agz ?_)
 | ((first|refine Alz ?_|refine Afz ?_|refine Ahz ?_|refine Aiz ?_);simp (disch:=omega) only [push_cast,seval,l61r0,l61r1,l61r2,l61r3,l61r4,l61r5,l61r6,l61r7,h5,List.length_map])
 | ((first|refine Abz ?_ ?_|refine Aez ?_ ?_|refine Adz ?_ ?_)<;>intro h<;>(try simp only [h])<;>(try simp only [bitvec_to_nat] at h)<;>(try simp only [h])<;>(first|(exfalso;omega)|(exfalso;simp_all;done)|(simp (disch:=omega) only [push_cast,seval,h5,List.length_map])|skip))
 | (refine Ajz ⟨.inr rfl,[160],[],_,by decide,rfl,?_⟩;(try simp (disch:=omega) only [push_cast,seval,↓Arz,↓Apz,↓List.map_cons,↓List.map_nil,h5,List.length_map]))))
      all_goals (try simp [OI])


theorem costOf_ok (e:List Int) (ls:List (List Int)) (n:Nat) (hn:ls.length=n) (hb:e.length=5 ∧ n ≤ 1099511627776 ∧ (∀ l ∈ ls,l.length ≤ 1099511627776) ∧ (∀ l ∈ ls,∀ x ∈ l,0 ≤ x ∧ x ≤ 4) ∧ ∀ l ∈ ls,∀ x ∈ l,0 ≤ gE e x ∧ gE e x ≤ 60):PCall Try.prog 60 [.agg (IL e),.rows false (LL false ls) n] (fun r=>r=.int .i64 (pr ((lbS ls.flatten).map (gE e)))):=by
  subst hn
  obtain ⟨h5,hb0,hb1,hb2,hb3⟩:=hb
  have q1:ls.length ≤ 1099511627776 ∧ (∀ l ∈ ls,l.length ≤ 1099511627776) ∧ ∀ l ∈ ls,∀ x ∈ l,0 ≤ x ∧ x ≤ 4:=⟨hb0,hb1,hb2⟩
  have hll:=Dlz ls.flatten 5
  have q2:e.length=5 ∧ (lbS ls.flatten).length ≤ 1099511627776 ∧ ∀ x ∈ lbS ls.flatten,0 ≤ x ∧ x ≤ 4:=⟨h5,by show (lbT _ 5).length ≤ _;omega,fun x hx=>(Djz.1 hx).1⟩
  have q3:good9 ((lbS ls.flatten).map (gE e)):=by
    refine ⟨fun x hx=>?_,by rw [List.length_map];show (lbT _ 5).length ≤ _;omega⟩
    obtain ⟨y,hy,rfl⟩:=List.mem_map.1 hx
    obtain ⟨l,hl,hyl⟩:=List.mem_flatten.1 (Djz.1 hy).2
    exact hb3 l hl y hyl
  have t5:=tak5 h5
  refine A0z l60_eq rfl ?_
  generalize hM:lbS ls.flatten=M at *
  have hml:M.length=(M.map (gE e)).length:=by rw [List.length_map]
  generalize hW:M.map (gE e)=W at *
  (repeat' (first
 | (first|refine Akz ?_|refine Agz ?_)
 | ((first|refine Alz ?_|refine Atz (mid:=l60r1a) (post:=l60r1b) Azz (by decide) ?_|refine Afz ?_|refine Ahz ?_|refine Aiz ?_);simp (disch:=omega) only [push_cast,seval,l60r0,l60r1a,l60r1b,l60r1,h5,t5,hM,hW,hml,Aaz])
 | ((first|refine Abz ?_ ?_|refine Aez ?_ ?_|refine Adz ?_ ?_)<;>intro h<;>(try simp only [h])<;>(try simp only [bitvec_to_nat] at h)<;>(try simp only [h])<;>(first|(exfalso;omega)|(exfalso;simp_all;done)|(simp (disch:=omega) only [push_cast,seval,h5,t5,hM,hW,hml,Aaz])|skip))
 | ((first|refine Aoz false ?_|refine qcallD_of false ?_);simp (disch:=omega) only [push_cast,seval,h5,t5,hM,hW,hml,Aaz])
 | ((first|((first|refine call0D (labelsOf_ok _ _ ?_ ?_) ?_|refine qcall0D (BCall.ofP (plainI (labelsOf_ok _ _ ?_ ?_))) ⟨_,_,rfl,rfl⟩ ?_);(iterate 2 (exact sd));rintro _ _ ⟨rfl,rfl⟩)|((first|refine call0D (tblOf_ok _ _ _ ?_ ?_) ?_|refine qcall0D (BCall.ofP (plainI (tblOf_ok _ _ _ ?_ ?_))) ⟨_,_,rfl,rfl⟩ ?_);(iterate 2 (exact sd));rintro _ _ ⟨rfl,rfl⟩)|((first|refine call0D (BCall.ofP (product9_ok _ _ ?_ ?_)) ?_|refine qcall0D (BCall.ofP (product9_ok _ _ ?_ ?_)) ⟨_,_,rfl,rfl⟩ ?_);(iterate 2 (exact sd));rintro _ _ ⟨rfl,rfl⟩))<;>(try simp (disch:=omega) only [push_cast,seval,h5,t5,hM,hW,hml,Aaz]))
 | (refine Ajz ⟨.inr rfl,_,rfl,?_⟩;(try simp (disch:=omega) only [push_cast,seval,h5,t5,hM,hW,hml,Aaz]))))

end Go.Proofs.Ytpicoecbbiiaoaa
