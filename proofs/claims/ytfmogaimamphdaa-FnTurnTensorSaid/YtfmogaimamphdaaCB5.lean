/- Texts of this verifier. -/
import Derived.Test.YtfmogaimamphdaaCB4
import Derived.Test.YtfmogaimamphdaaCM1
import Derived.Test.YtfmogaimamphdaaCW3
set_option linter.unusedSimpArgs false
set_option linter.unusedVariables false
set_option maxRecDepth 4000
set_option maxHeartbeats 4000000
namespace Go.Proofs.Ytfmogaimamphdaa
open VwM Vw Go

def exP (ts:List Tn) (ls:List (List Int)) (out:List Int):Option (List Int):=if (decide (1 ≤ ts.length) && decide (ts.length ≤ 3) && decide (ls.length=ts.length) && allI out 0 4)=true then agO ts ls else none
theorem exP_no {ts:List Tn} {ls:List (List Int)} {out:List Int} (h:(decide (1 ≤ ts.length) && decide (ts.length ≤ 3) && decide (ls.length=ts.length) && allI out 0 4)=false):exP ts ls out=none:=by unfold exP;rw [h];rfl
theorem exP_yes {ts:List Tn} {ls:List (List Int)} {out:List Int} (h:(decide (1 ≤ ts.length) && decide (ts.length ≤ 3) && decide (ls.length=ts.length) && allI out 0 4)=true):exP ts ls out=agO ts ls:=by unfold exP;rw [h];rfl
theorem Bvz {α:Type} {e:List Int} (h:e.length=5) (a b:α):(if e.length=5 then a else b)=a:=if_pos h


set_option maxHeartbeats 16000000 in
theorem Bwz (ts:List Tn) (ls:List (List Int)) (out:List Int) (n m q:Nat) (hn:ts.length=n) (hm:ls.length=m) (hq:out.length=q) (hb:n ≤ 1099511627776 ∧ m ≤ 1099511627776 ∧ q ≤ 1099511627776 ∧ (∀ t ∈ ts,t.1.length ≤ 1099511627776 ∧ t.2.length ≤ 1099511627776) ∧ ∀ l ∈ ls,l.length ≤ 1099511627776) :
    PCall Try.prog 50 [.rows false (TL false ts) n,.rows false (LL false ls) m,.rows false (IL out) q] (fun r=>∃ g:List Int,((exP ts ls out).getD g).length=5 ∧ r=.tup [.agg (IL ((exP ts ls out).getD g)),.bool (exP ts ls out).isSome]):=by
  subst hn hm hq
  obtain ⟨hb0,hb1,hb2,hb3,hb4⟩:=hb
  have hb3':∀ (a b:List Int),(a,b) ∈ ts → a.length ≤ 1099511627776 ∧ b.length ≤ 1099511627776:=fun a b h=>hb3 _ h
  refine A0z l50_eq rfl ?_
  have htl:=D5z false ts
  have hll:=Daz false ls
  have s0:=set5 (e:=ext0) rfl
  have l0:=B4z
  by_cases h1:(ts.length:Int) < 1
  · have hno:=exP_no (ts:=ts) (ls:=ls) (out:=out) (by simp;omega)
    rw [hno]
    (repeat' (first
 | (first|refine Akz ?_|refine Aez ?_)
 | ((first|refine Alz ?_|refine Adz ?_|refine Afz ?_|refine Agz ?_);simp (disch:=omega) only [push_cast,seval,l50r0,l50r1,l50r2,l50r3,h1,s0,l0,Atz,Ajz])
 | ((first|refine Aaz ?_ ?_|refine Acz ?_ ?_|refine Abz ?_ ?_)<;>intro h<;>(try simp only [h])<;>(try simp only [bitvec_to_nat] at h)<;>(try simp only [h])<;>(first|(exfalso;omega)|(exfalso;simp_all;done)|(simp (disch:=omega) only [push_cast,seval,h1,s0,l0,Atz,Ajz])|skip))
 | ((first|refine Apz false ?_|refine qcallD_of false ?_);simp (disch:=omega) only [push_cast,seval,h1,s0,l0,Atz,Ajz])
 | ((first|((first|refine call0D (BCall.ofP (ivL_ok _ _ ?_ ?_)) ?_|refine qcall0D (BCall.ofP (ivL_ok _ _ ?_ ?_)) ⟨_,_,rfl,rfl⟩ ?_);(iterate 2 (exact sd));rintro _ _ ⟨rfl,rfl⟩)|((first|refine call0D (BCall.ofP (unused_ok)) ?_|refine qcall0D (BCall.ofP (unused_ok)) ⟨_,_,rfl,rfl⟩ ?_);rintro _ _ ⟨rfl,rfl⟩)|(refine call0D (BCall.ofP (agreed_ok _ _ _ _ ?_ ?_ ?_)) ?_;(iterate 3 (exact sd));rintro _ _ ⟨⟨g,hg5,rfl⟩,rfl⟩))<;>(try simp (disch:=omega) only [push_cast,seval,h1,s0,l0,Atz,Ajz]))
 | ((first|refine Ahz ⟨.inr rfl,_,rfl,?_⟩|refine Ahz ⟨.inr rfl,_,Biz rfl rfl (by assumption) rfl,?_⟩);(try simp (disch:=omega) only [push_cast,seval,h1,s0,l0,Atz,Ajz]))))
    all_goals exact ⟨ext0,rfl,rfl⟩
  · by_cases h2:(3:Int) < (ts.length:Int)
    · have hno:=exP_no (ts:=ts) (ls:=ls) (out:=out) (by simp;omega)
      rw [hno]
      (repeat' (first
 | (first|refine Akz ?_|refine Aez ?_)
 | ((first|refine Alz ?_|refine Adz ?_|refine Afz ?_|refine Agz ?_);simp (disch:=omega) only [push_cast,seval,l50r0,l50r1,l50r2,l50r3,h1,h2,s0,l0,Atz,Ajz])
 | ((first|refine Aaz ?_ ?_|refine Acz ?_ ?_|refine Abz ?_ ?_)<;>intro h<;>(try simp only [h])<;>(try simp only [bitvec_to_nat] at h)<;>(try simp only [h])<;>(first|(exfalso;omega)|(exfalso;simp_all;done)|(simp (disch:=omega) only [push_cast,seval,h1,h2,s0,l0,Atz,Ajz])|skip))
 | ((first|refine Apz false ?_|refine qcallD_of false ?_);simp (disch:=omega) only [push_cast,seval,h1,h2,s0,l0,Atz,Ajz])
 | ((first|((first|refine call0D (BCall.ofP (ivL_ok _ _ ?_ ?_)) ?_|refine qcall0D (BCall.ofP (ivL_ok _ _ ?_ ?_)) ⟨_,_,rfl,rfl⟩ ?_);(iterate 2 (exact sd));rintro _ _ ⟨rfl,rfl⟩)|((first|refine call0D (BCall.ofP (unused_ok)) ?_|refine qcall0D (BCall.ofP (unused_ok)) ⟨_,_,rfl,rfl⟩ ?_);rintro _ _ ⟨rfl,rfl⟩)|(refine call0D (BCall.ofP (agreed_ok _ _ _ _ ?_ ?_ ?_)) ?_;(iterate 3 (exact sd));rintro _ _ ⟨⟨g,hg5,rfl⟩,rfl⟩))<;>(try simp (disch:=omega) only [push_cast,seval,h1,h2,s0,l0,Atz,Ajz]))
 | ((first|refine Ahz ⟨.inr rfl,_,rfl,?_⟩|refine Ahz ⟨.inr rfl,_,Biz rfl rfl (by assumption) rfl,?_⟩);(try simp (disch:=omega) only [push_cast,seval,h1,h2,s0,l0,Atz,Ajz]))))
      all_goals exact ⟨ext0,rfl,rfl⟩
    · by_cases h3:ls.length=ts.length
      · have h3':(ls.length:Int)=ts.length:=by omega
        cases h4:allI out 0 4 with
        | false =>
          have hno:=exP_no (ts:=ts) (ls:=ls) (out:=out) (by simp [h4])
          rw [hno]
          (repeat' (first
 | (first|refine Akz ?_|refine Aez ?_)
 | ((first|refine Alz ?_|refine Adz ?_|refine Afz ?_|refine Agz ?_);simp (disch:=omega) only [push_cast,seval,l50r0,l50r1,l50r2,l50r3,h1,h2,h3',h4,s0,l0,Atz,Ajz])
 | ((first|refine Aaz ?_ ?_|refine Acz ?_ ?_|refine Abz ?_ ?_)<;>intro h<;>(try simp only [h])<;>(try simp only [bitvec_to_nat] at h)<;>(try simp only [h])<;>(first|(exfalso;omega)|(exfalso;simp_all;done)|(simp (disch:=omega) only [push_cast,seval,h1,h2,h3',h4,s0,l0,Atz,Ajz])|skip))
 | ((first|refine Apz false ?_|refine qcallD_of false ?_);simp (disch:=omega) only [push_cast,seval,h1,h2,h3',h4,s0,l0,Atz,Ajz])
 | ((first|((first|refine call0D (BCall.ofP (ivL_ok _ _ ?_ ?_)) ?_|refine qcall0D (BCall.ofP (ivL_ok _ _ ?_ ?_)) ⟨_,_,rfl,rfl⟩ ?_);(iterate 2 (exact sd));rintro _ _ ⟨rfl,rfl⟩)|((first|refine call0D (BCall.ofP (unused_ok)) ?_|refine qcall0D (BCall.ofP (unused_ok)) ⟨_,_,rfl,rfl⟩ ?_);rintro _ _ ⟨rfl,rfl⟩)|(refine call0D (BCall.ofP (agreed_ok _ _ _ _ ?_ ?_ ?_)) ?_;(iterate 3 (exact sd));rintro _ _ ⟨⟨g,hg5,rfl⟩,rfl⟩))<;>(try simp (disch:=omega) only [push_cast,seval,h1,h2,h3',h4,s0,l0,Atz,Ajz]))
 | ((first | refine Ahz ⟨.inr rfl,_,rfl,?_⟩ | refine Ahz ⟨.inr rfl,_,Biz rfl rfl (by assumption) rfl,?_⟩); (try simp (disch := omega) only [push_cast,seval,h1,h2,h3',h4,s0,l0,Atz,Ajz]))))
          all_goals exact ⟨ext0,rfl,rfl⟩
        | true =>
          rw [exP_yes (by simp [h3,h4];omega)]
          have q1:ls.length=ts.length ∧ ts.length ≤ 1099511627776 ∧ (∀ t ∈ ts,t.1.length ≤ 1099511627776 ∧ t.2.length ≤ 1099511627776) ∧ ∀ l ∈ ls,l.length ≤ 1099511627776:=⟨h3,hb0,hb3,hb4⟩
          (repeat' (first
 | (first|refine Akz ?_|refine Aez ?_)
 | ((first|refine Alz ?_|refine Adz ?_|refine Afz ?_|refine Agz ?_);simp (disch:=omega) only [push_cast,seval,l50r0,l50r1,l50r2,l50r3,h1,h2,h3',h4,set5,tak5,Bvz,Atz,Ajz])
 | ((first|refine Aaz ?_ ?_|refine Acz ?_ ?_|refine Abz ?_ ?_)<;>intro h<;>(try simp only [h])<;>(try simp only [bitvec_to_nat] at h)<;>(try simp only [h])<;>(first|(exfalso;omega)|(exfalso;simp_all;done)|(simp (disch:=omega) only [push_cast,seval,h1,h2,h3',h4,set5,tak5,Bvz,Atz,Ajz])|skip))
 | ((first|refine Apz false ?_|refine qcallD_of false ?_);simp (disch:=omega) only [push_cast,seval,h1,h2,h3',h4,set5,tak5,Bvz,Atz,Ajz])
 | ((first|((first|refine call0D (BCall.ofP (ivL_ok _ _ ?_ ?_)) ?_|refine qcall0D (BCall.ofP (ivL_ok _ _ ?_ ?_)) ⟨_,_,rfl,rfl⟩ ?_);(iterate 2 (exact sd));rintro _ _ ⟨rfl,rfl⟩)|((first|refine call0D (BCall.ofP (unused_ok)) ?_|refine qcall0D (BCall.ofP (unused_ok)) ⟨_,_,rfl,rfl⟩ ?_);rintro _ _ ⟨rfl,rfl⟩)|(refine call0D (BCall.ofP (agreed_ok _ _ _ _ ?_ ?_ ?_)) ?_;(iterate 3 (exact sd));rintro _ _ ⟨⟨g,hg5,rfl⟩,rfl⟩))<;>(try simp (disch:=omega) only [push_cast,seval,h1,h2,h3',h4,set5,tak5,Bvz,Atz,Ajz]))
 | ((first | refine Ahz ⟨.inr rfl,_,rfl,?_⟩ | refine Ahz ⟨.inr rfl,_,Biz rfl rfl (by assumption) rfl,?_⟩); (try simp (disch := omega) only [push_cast,seval,h1,h2,h3',h4,set5,tak5,Bvz,Atz,Ajz]))))
          all_goals exact ⟨g,hg5,rfl⟩
      · have h3':¬ (ls.length:Int)=ts.length:=by omega
        have hno:=exP_no (ts:=ts) (ls:=ls) (out:=out) (by simp [h3])
        rw [hno]
        (repeat' (first
 | (first|refine Akz ?_|refine Aez ?_)
 | ((first|refine Alz ?_|refine Adz ?_|refine Afz ?_|refine Agz ?_);simp (disch:=omega) only [push_cast,seval,l50r0,l50r1,l50r2,l50r3,h1,h2,h3',s0,l0,Atz,Ajz])
 | ((first|refine Aaz ?_ ?_|refine Acz ?_ ?_|refine Abz ?_ ?_)<;>intro h<;>(try simp only [h])<;>(try simp only [bitvec_to_nat] at h)<;>(try simp only [h])<;>(first|(exfalso;omega)|(exfalso;simp_all;done)|(simp (disch:=omega) only [push_cast,seval,h1,h2,h3',s0,l0,Atz,Ajz])|skip))
 | ((first|refine Apz false ?_|refine qcallD_of false ?_);simp (disch:=omega) only [push_cast,seval,h1,h2,h3',s0,l0,Atz,Ajz])
 | ((first|((first|refine call0D (BCall.ofP (ivL_ok _ _ ?_ ?_)) ?_|refine qcall0D (BCall.ofP (ivL_ok _ _ ?_ ?_)) ⟨_,_,rfl,rfl⟩ ?_);(iterate 2 (exact sd));rintro _ _ ⟨rfl,rfl⟩)|((first|refine call0D (BCall.ofP (unused_ok)) ?_|refine qcall0D (BCall.ofP (unused_ok)) ⟨_,_,rfl,rfl⟩ ?_);rintro _ _ ⟨rfl,rfl⟩)|(refine call0D (BCall.ofP (agreed_ok _ _ _ _ ?_ ?_ ?_)) ?_;(iterate 3 (exact sd));rintro _ _ ⟨⟨g,hg5,rfl⟩,rfl⟩))<;>(try simp (disch:=omega) only [push_cast,seval,h1,h2,h3',s0,l0,Atz,Ajz]))
 | ((first|refine Ahz ⟨.inr rfl,_,rfl,?_⟩|refine Ahz ⟨.inr rfl,_,Biz rfl rfl (by assumption) rfl,?_⟩);(try simp (disch:=omega) only [push_cast,seval,h1,h2,h3',s0,l0,Atz,Ajz]))))
        all_goals exact ⟨ext0,rfl,rfl⟩
theorem extentsOfN_ok (ts:List Tn) (ls:List (List Int)) (n m:Nat) (hn:ts.length=n) (hm:ls.length=m) (hb:n ≤ 1099511627776 ∧ m ≤ 1099511627776 ∧ (∀ t ∈ ts,t.1.length ≤ 1099511627776 ∧ t.2.length ≤ 1099511627776) ∧ ∀ l ∈ ls,l.length ≤ 1099511627776) :
    PCall Try.prog 50 [.rows false (TL false ts) n,.rows false (LL false ls) m,.rows false [] 0] (fun r=>∃ g:List Int,((exP ts ls []).getD g).length=5 ∧ r=.tup [.agg (IL ((exP ts ls []).getD g)),.bool (exP ts ls []).isSome]) :=
  Bwz ts ls [] n m 0 hn hm rfl ⟨hb.1,hb.2.1,by omega,hb.2.2.1,hb.2.2.2⟩


set_option maxHeartbeats 16000000 in
theorem labelsOf_ok (ls:List (List Int)) (n:Nat) (hn:ls.length=n) (hb:n ≤ 1099511627776 ∧ (∀ l ∈ ls,l.length ≤ 1099511627776) ∧ ∀ l ∈ ls,∀ x ∈ l,0 ≤ x ∧ x ≤ 4):BCall Try.prog 51 [.rows false (LL false ls) n] [] (OI (lbS ls.flatten)):=by
  subst hn
  obtain ⟨hb0,hb1,hb2⟩:=hb
  have hll:=Daz false ls
  refine A8z (pins:=[]) (pin:=0) l51_eq rfl rfl rfl ?_
  (repeat' (first
 | (first|refine Akz ?_|refine Aez ?_)
 | ((first|refine Alz ?_|refine Adz ?_|refine Afz ?_|refine Agz ?_);simp (disch:=omega) only [push_cast,seval,l51r0,l51r1,l51r2,l51r3,l51r4,l51r5,l51r6,l51r7,l51r8,l51r9,l51r10,l51r11,l51r12,l51r13,l51r14,l51r15,l51r16,l51r17,l51r18,Ajz])
 | ((first|refine Aaz ?_ ?_|refine Acz ?_ ?_|refine Abz ?_ ?_)<;>intro h<;>(try simp only [h])<;>(try simp only [bitvec_to_nat] at h)<;>(try simp only [h])<;>(first|(exfalso;omega)|(exfalso;simp_all;done)|(simp (disch:=omega) only [push_cast,seval,Ajz])|skip))
 | ((first|(refine A3z (by kernel_rfl) (by (simp (disch:=omega) only [push_cast,seval,Ajz])<;>rfl) ?_)|(refine Awz (t:=23) (sz:=1) (zs:=[.int .i64 0]) (by kernel_rfl) (by (simp (disch:=omega) only [push_cast,seval,Ajz])<;>rfl) (by (simp (disch:=omega) only [push_cast,seval,Ajz])<;>rfl) (by first|assumption|omega|(constructor<;>omega)) (by first|((simp (disch:=omega) only [push_cast,seval,Ajz]);done)|((simp (disch:=omega) only [push_cast,seval,Ajz]);exact ⟨rfl,by omega⟩)) ?_)|(refine Awz (t:=0) (sz:=2) (zs:=[.int .i64 0,.int .i64 0]) (by kernel_rfl) (by (simp (disch:=omega) only [push_cast,seval,Ajz])<;>rfl) (by (simp (disch:=omega) only [push_cast,seval,Ajz])<;>rfl) (by first|assumption|omega|(constructor<;>omega)) (by first|((simp (disch:=omega) only [push_cast,seval,Ajz]);done)|((simp (disch:=omega) only [push_cast,seval,Ajz]);exact ⟨rfl,by omega⟩)) ?_)|(refine A9z (len:=5) (by kernel_rfl) (by (simp (disch:=omega) only [push_cast,seval,Ajz])<;>rfl) (by (simp (disch:=omega) only [push_cast,seval,Ajz])<;>rfl) (by first|assumption|omega|(constructor<;>omega)) (by first|rfl|((simp (disch:=omega) only [push_cast,seval,Ajz]);rfl)) ?_))<;>(try simp (disch:=omega) only [push_cast,seval,Ajz]))
 | (refine Ahz ⟨.inr rfl,[576],[],_,by decide,rfl,?_⟩;(try simp (disch:=omega) only [push_cast,seval,↓Amz,↓Aiz,↓List.map_cons,↓List.map_nil,Ajz]))))
  have hm0:(mkL []).map AV.bool=[AV.bool false,AV.bool false,AV.bool false,AV.bool false,AV.bool false]:=mkL_nil
  refine A1z (fun i:Nat=>mkS [(2,.val (.slice none 0 0)),(3,.ref 48 5 0),(11,.rows false (LL false ls) ls.length),(12,.int .i64 ls.length),(13,.int .i64 i)] [(48,(mkL (ls.take i).flatten).map AV.bool)]) (fun i=>i ≤ ls.length) (fun i=>ls.length - i) 0 (Nat.zero_le _) ?_ ?_
  · (refine Sub.of_lists ?_ ?_ ?_ ?_ ?_<;>simp [Vw.mkS,Vw.lk,Vw.hk,AV.inn,innL,Aqz,Anz,Asz,-List.map_set,-List.getD_eq_getElem?_getD,Ajz,hm0])
  · intro i hi
    have hml:=H0z (ls.take i).flatten
    by_cases hlt:i < ls.length
    · obtain ⟨l,hl⟩:=F5z hlt
      have hbl:=hb1 _ (List.mem_of_getElem? hl)
      have hlx:=hb2 _ (List.mem_of_getElem? hl)
      have hd2:=I3z false ls i hl
      have hil2:i + 1 ≤ ls.length:=by omega
      have hfl:(ls.take (i + 1)).flatten=(ls.take i).flatten ++ l:=by rw [List.take_add_one,hl];simp
      (repeat' (first
 | (first|refine Akz ?_|refine Aez ?_)
 | ((first|refine Alz ?_|refine Adz ?_|refine Afz ?_|refine Agz ?_);simp (disch:=omega) only [push_cast,seval,l51r0,l51r1,l51r2,l51r3,l51r4,l51r5,l51r6,l51r7,l51r8,l51r9,l51r10,l51r11,l51r12,l51r13,l51r14,l51r15,l51r16,l51r17,l51r18,hd2,hll,hil2,Ajz])
 | ((first|refine Aaz ?_ ?_|refine Acz ?_ ?_|refine Abz ?_ ?_)<;>intro h<;>(try simp only [h])<;>(try simp only [bitvec_to_nat] at h)<;>(try simp only [h])<;>(first|(exfalso;omega)|(exfalso;simp_all;done)|(simp (disch:=omega) only [push_cast,seval,hd2,hll,hil2,Ajz])|skip))
 | ((first|(refine A3z (by kernel_rfl) (by (simp (disch:=omega) only [push_cast,seval,hd2,hll,hil2,Ajz])<;>rfl) ?_)|(refine Awz (t:=23) (sz:=1) (zs:=[.int .i64 0]) (by kernel_rfl) (by (simp (disch:=omega) only [push_cast,seval,hd2,hll,hil2,Ajz])<;>rfl) (by (simp (disch:=omega) only [push_cast,seval,hd2,hll,hil2,Ajz])<;>rfl) (by first|assumption|omega|(constructor<;>omega)) (by first|((simp (disch:=omega) only [push_cast,seval,hd2,hll,hil2,Ajz]);done)|((simp (disch:=omega) only [push_cast,seval,hd2,hll,hil2,Ajz]);exact ⟨rfl,by omega⟩)) ?_)|(refine Awz (t:=0) (sz:=2) (zs:=[.int .i64 0,.int .i64 0]) (by kernel_rfl) (by (simp (disch:=omega) only [push_cast,seval,hd2,hll,hil2,Ajz])<;>rfl) (by (simp (disch:=omega) only [push_cast,seval,hd2,hll,hil2,Ajz])<;>rfl) (by first|assumption|omega|(constructor<;>omega)) (by first|((simp (disch:=omega) only [push_cast,seval,hd2,hll,hil2,Ajz]);done)|((simp (disch:=omega) only [push_cast,seval,hd2,hll,hil2,Ajz]);exact ⟨rfl,by omega⟩)) ?_)|(refine A9z (len:=5) (by kernel_rfl) (by (simp (disch:=omega) only [push_cast,seval,hd2,hll,hil2,Ajz])<;>rfl) (by (simp (disch:=omega) only [push_cast,seval,hd2,hll,hil2,Ajz])<;>rfl) (by first|assumption|omega|(constructor<;>omega)) (by first|rfl|((simp (disch:=omega) only [push_cast,seval,hd2,hll,hil2,Ajz]);rfl)) ?_))<;>(try simp (disch:=omega) only [push_cast,seval,hd2,hll,hil2,Ajz]))
 | (refine Ahz ⟨.inr rfl,[576],[],_,by decide,rfl,?_⟩;(try simp (disch:=omega) only [push_cast,seval,↓Amz,↓Aiz,↓List.map_cons,↓List.map_nil,hd2,hll,hil2,Ajz]))))
      refine A1z (fun j:Nat=>mkS [(2,.val (.slice none 0 0)),(3,.ref 48 5 0),(11,.rows false (LL false ls) ls.length),(12,.int .i64 ls.length),(13,.int .i64 i),(17,RI l),(18,.int .i64 l.length),(19,.int .i64 j)] [(48,(mkL ((ls.take i).flatten ++ l.take j)).map AV.bool)]) (fun j=>j ≤ l.length) (fun j=>l.length - j) 0 (Nat.zero_le _) ?_ ?_
      · (refine Sub.of_lists ?_ ?_ ?_ ?_ ?_<;>simp [Vw.mkS,Vw.lk,Vw.hk,AV.inn,innL,Aqz,Anz,Asz,-List.map_set,-List.getD_eq_getElem?_getD,Ajz,Cez])
      · intro j hj
        have hml2:=H0z ((ls.take i).flatten ++ l.take j)
        by_cases hjl:j < l.length
        · have hk:=hlx _ (A2z (xs:=l) hjl)
          obtain ⟨c,hc⟩:∃ c:Nat,l.getD j 0=c:=⟨(l.getD j 0).toNat,by omega⟩
          have hc5:c < 5:=by omega
          have hs:=mkL_set (L:=(ls.take i).flatten ++ l.take j) (c:=c) (by omega)
          rw [Int.toNat_natCast,List.append_assoc,← hc,← Bez l j hjl] at hs
          (repeat' (first
 | (first|refine Akz ?_|refine Aez ?_)
 | ((first|refine Alz ?_|refine Adz ?_|refine Afz ?_|refine Agz ?_);simp (disch:=omega) only [push_cast,seval,l51r0,l51r1,l51r2,l51r3,l51r4,l51r5,l51r6,l51r7,l51r8,l51r9,l51r10,l51r11,l51r12,l51r13,l51r14,l51r15,l51r16,l51r17,l51r18,hd2,hll,hil2,hc,hml2,List.length_map,Ajz])
 | ((first|refine Aaz ?_ ?_|refine Acz ?_ ?_|refine Abz ?_ ?_)<;>intro h<;>(try simp only [h])<;>(try simp only [bitvec_to_nat] at h)<;>(try simp only [h])<;>(first|(exfalso;omega)|(exfalso;simp_all;done)|(simp (disch:=omega) only [push_cast,seval,hd2,hll,hil2,hc,hml2,List.length_map,Ajz])|skip))
 | ((first|(refine A3z (by kernel_rfl) (by (simp (disch:=omega) only [push_cast,seval,hd2,hll,hil2,hc,hml2,List.length_map,Ajz])<;>rfl) ?_)|(refine Awz (t:=23) (sz:=1) (zs:=[.int .i64 0]) (by kernel_rfl) (by (simp (disch:=omega) only [push_cast,seval,hd2,hll,hil2,hc,hml2,List.length_map,Ajz])<;>rfl) (by (simp (disch:=omega) only [push_cast,seval,hd2,hll,hil2,hc,hml2,List.length_map,Ajz])<;>rfl) (by first|assumption|omega|(constructor<;>omega)) (by first|((simp (disch:=omega) only [push_cast,seval,hd2,hll,hil2,hc,hml2,List.length_map,Ajz]);done)|((simp (disch:=omega) only [push_cast,seval,hd2,hll,hil2,hc,hml2,List.length_map,Ajz]);exact ⟨rfl,by omega⟩)) ?_)|(refine Awz (t:=0) (sz:=2) (zs:=[.int .i64 0,.int .i64 0]) (by kernel_rfl) (by (simp (disch:=omega) only [push_cast,seval,hd2,hll,hil2,hc,hml2,List.length_map,Ajz])<;>rfl) (by (simp (disch:=omega) only [push_cast,seval,hd2,hll,hil2,hc,hml2,List.length_map,Ajz])<;>rfl) (by first|assumption|omega|(constructor<;>omega)) (by first|((simp (disch:=omega) only [push_cast,seval,hd2,hll,hil2,hc,hml2,List.length_map,Ajz]);done)|((simp (disch:=omega) only [push_cast,seval,hd2,hll,hil2,hc,hml2,List.length_map,Ajz]);exact ⟨rfl,by omega⟩)) ?_)|(refine A9z (len:=5) (by kernel_rfl) (by (simp (disch:=omega) only [push_cast,seval,hd2,hll,hil2,hc,hml2,List.length_map,Ajz])<;>rfl) (by (simp (disch:=omega) only [push_cast,seval,hd2,hll,hil2,hc,hml2,List.length_map,Ajz])<;>rfl) (by first|assumption|omega|(constructor<;>omega)) (by first|rfl|((simp (disch:=omega) only [push_cast,seval,hd2,hll,hil2,hc,hml2,List.length_map,Ajz]);rfl)) ?_))<;>(try simp (disch:=omega) only [push_cast,seval,hd2,hll,hil2,hc,hml2,List.length_map,Ajz]))
 | (refine Ahz ⟨.inr rfl,[576],[],_,by decide,rfl,?_⟩; (try simp (disch := omega) only [push_cast,seval,↓Amz,↓Aiz,↓List.map_cons,↓List.map_nil,hd2,hll,hil2,hc,hml2,List.length_map,Ajz]))))
          refine ⟨j + 1,by omega,by omega,?_⟩
          have hs2:=congrArg (List.map AV.bool) hs
          rw [List.map_set] at hs2
          (refine Sub.of_lists ?_ ?_ ?_ ?_ ?_<;>simp [Vw.mkS,Vw.lk,Vw.hk,AV.inn,innL,Aqz,Anz,Asz,-List.map_set,-List.getD_eq_getElem?_getD,hs2,Ajz,Cez])
        · have ej:j=l.length:=by omega
          have e2:(ls.take i).flatten ++ l.take j=(ls.take (i + 1)).flatten:=by rw [hfl,List.take_of_length_le (l:=l) (by omega)]
          rw [e2] at hml2 ⊢
          have hjx:¬ (j:Int) < l.length:=by omega
          (repeat' (first
 | (first|refine Akz ?_|refine Aez ?_)
 | ((first|refine Alz ?_|refine Adz ?_|refine Afz ?_|refine Agz ?_);simp (disch:=omega) only [push_cast,seval,l51r0,l51r1,l51r2,l51r3,l51r4,l51r5,l51r6,l51r7,l51r8,l51r9,l51r10,l51r11,l51r12,l51r13,l51r14,l51r15,l51r16,l51r17,l51r18,hd2,hll,hil2,hml2,List.length_map,Ajz])
 | ((first|refine Aaz ?_ ?_|refine Acz ?_ ?_|refine Abz ?_ ?_)<;>intro h<;>(try simp only [h])<;>(try simp only [bitvec_to_nat] at h)<;>(try simp only [h])<;>(first|(exfalso;omega)|(exfalso;simp_all;done)|(simp (disch:=omega) only [push_cast,seval,hd2,hll,hil2,hml2,List.length_map,Ajz])|skip))
 | ((first|(refine A3z (by kernel_rfl) (by (simp (disch:=omega) only [push_cast,seval,hd2,hll,hil2,hml2,List.length_map,Ajz])<;>rfl) ?_)|(refine Awz (t:=23) (sz:=1) (zs:=[.int .i64 0]) (by kernel_rfl) (by (simp (disch:=omega) only [push_cast,seval,hd2,hll,hil2,hml2,List.length_map,Ajz])<;>rfl) (by (simp (disch:=omega) only [push_cast,seval,hd2,hll,hil2,hml2,List.length_map,Ajz])<;>rfl) (by first|assumption|omega|(constructor<;>omega)) (by first|((simp (disch:=omega) only [push_cast,seval,hd2,hll,hil2,hml2,List.length_map,Ajz]);done)|((simp (disch:=omega) only [push_cast,seval,hd2,hll,hil2,hml2,List.length_map,Ajz]);exact ⟨rfl,by omega⟩)) ?_)|(refine Awz (t:=0) (sz:=2) (zs:=[.int .i64 0,.int .i64 0]) (by kernel_rfl) (by (simp (disch:=omega) only [push_cast,seval,hd2,hll,hil2,hml2,List.length_map,Ajz])<;>rfl) (by (simp (disch:=omega) only [push_cast,seval,hd2,hll,hil2,hml2,List.length_map,Ajz])<;>rfl) (by first|assumption|omega|(constructor<;>omega)) (by first|((simp (disch:=omega) only [push_cast,seval,hd2,hll,hil2,hml2,List.length_map,Ajz]);done)|((simp (disch:=omega) only [push_cast,seval,hd2,hll,hil2,hml2,List.length_map,Ajz]);exact ⟨rfl,by omega⟩)) ?_)|(refine A9z (len:=5) (by kernel_rfl) (by (simp (disch:=omega) only [push_cast,seval,hd2,hll,hil2,hml2,List.length_map,Ajz])<;>rfl) (by (simp (disch:=omega) only [push_cast,seval,hd2,hll,hil2,hml2,List.length_map,Ajz])<;>rfl) (by first|assumption|omega|(constructor<;>omega)) (by first|rfl|((simp (disch:=omega) only [push_cast,seval,hd2,hll,hil2,hml2,List.length_map,Ajz]);rfl)) ?_))<;>(try simp (disch:=omega) only [push_cast,seval,hd2,hll,hil2,hml2,List.length_map,Ajz]))
 | (refine Ahz ⟨.inr rfl,[576],[],_,by decide,rfl,?_⟩; (try simp (disch := omega) only [push_cast,seval,↓Amz,↓Aiz,↓List.map_cons,↓List.map_nil,hd2,hll,hil2,hml2,List.length_map,Ajz]))))
          refine ⟨i + 1,by omega,by omega,?_⟩
          (refine Sub.of_lists ?_ ?_ ?_ ?_ ?_<;>simp [Vw.mkS,Vw.lk,Vw.hk,AV.inn,innL,Aqz,Anz,Asz,-List.map_set,-List.getD_eq_getElem?_getD,Ajz,Cez])
    · have e2:ls.take i=ls:=List.take_of_length_le (by omega)
      rw [e2] at hml ⊢
      have hj5:((mkL ls.flatten).map AV.bool).take 5=(mkL ls.flatten).map AV.bool:=List.take_of_length_le (by simp [hml])
      generalize hM:ls.flatten=M at *
      (repeat' (first
 | (first|refine Akz ?_|refine Aez ?_)
 | ((first|refine Alz ?_|refine Adz ?_|refine Afz ?_|refine Agz ?_);simp (disch:=omega) only [push_cast,seval,l51r0,l51r1,l51r2,l51r3,l51r4,l51r5,l51r6,l51r7,l51r8,l51r9,l51r10,l51r11,l51r12,l51r13,l51r14,l51r15,l51r16,l51r17,l51r18,hml,hj5,List.length_map,Ajz])
 | ((first|refine Aaz ?_ ?_|refine Acz ?_ ?_|refine Abz ?_ ?_)<;>intro h<;>(try simp only [h])<;>(try simp only [bitvec_to_nat] at h)<;>(try simp only [h])<;>(first|(exfalso;omega)|(exfalso;simp_all;done)|(simp (disch:=omega) only [push_cast,seval,hml,hj5,List.length_map,Ajz])|skip))
 | ((first|(refine A3z (by kernel_rfl) (by (simp (disch:=omega) only [push_cast,seval,hml,hj5,List.length_map,Ajz])<;>rfl) ?_)|(refine Awz (t:=23) (sz:=1) (zs:=[.int .i64 0]) (by kernel_rfl) (by (simp (disch:=omega) only [push_cast,seval,hml,hj5,List.length_map,Ajz])<;>rfl) (by (simp (disch:=omega) only [push_cast,seval,hml,hj5,List.length_map,Ajz])<;>rfl) (by first|assumption|omega|(constructor<;>omega)) (by first|((simp (disch:=omega) only [push_cast,seval,hml,hj5,List.length_map,Ajz]);done)|((simp (disch:=omega) only [push_cast,seval,hml,hj5,List.length_map,Ajz]);exact ⟨rfl,by omega⟩)) ?_)|(refine Awz (t:=0) (sz:=2) (zs:=[.int .i64 0,.int .i64 0]) (by kernel_rfl) (by (simp (disch:=omega) only [push_cast,seval,hml,hj5,List.length_map,Ajz])<;>rfl) (by (simp (disch:=omega) only [push_cast,seval,hml,hj5,List.length_map,Ajz])<;>rfl) (by first|assumption|omega|(constructor<;>omega)) (by first|((simp (disch:=omega) only [push_cast,seval,hml,hj5,List.length_map,Ajz]);done)|((simp (disch:=omega) only [push_cast,seval,hml,hj5,List.length_map,Ajz]);exact ⟨rfl,by omega⟩)) ?_)|(refine A9z (len:=5) (by kernel_rfl) (by (simp (disch:=omega) only [push_cast,seval,hml,hj5,List.length_map,Ajz])<;>rfl) (by (simp (disch:=omega) only [push_cast,seval,hml,hj5,List.length_map,Ajz])<;>rfl) (by first|assumption|omega|(constructor<;>omega)) (by first|rfl|((simp (disch:=omega) only [push_cast,seval,hml,hj5,List.length_map,Ajz]);rfl)) ?_))<;>(try simp (disch:=omega) only [push_cast,seval,hml,hj5,List.length_map,Ajz]))
 | (refine Ahz ⟨.inr rfl,[576],[],_,by decide,rfl,?_⟩;(try simp (disch:=omega) only [push_cast,seval,↓Amz,↓Aiz,↓List.map_cons,↓List.map_nil,hml,hj5,List.length_map,Ajz]))))
      refine C9z (fun k:Nat=>mkS [(2,.val (.slice none 0 0)),(8,.own 576 (lbT M k).length 1),(27,.agg ((mkL M).map AV.bool)),(28,.int .i64 k)] [(576,IL (lbT M k))]) (fun k=>k ≤ 5) (fun k=>5 - k) 0 (Nat.zero_le _) ?_ ?_
      · refine SubW.adopt [8] 576 1 (by simp [Vw.hk]) (SubW.of ?_)
        simp only [adL,List.map_cons,List.map_nil,adA,List.contains_cons,List.contains_nil]
        (refine Sub.of_lists ?_ ?_ ?_ ?_ ?_<;>simp [Vw.mkS,Vw.lk,Vw.hk,AV.inn,innL,Aqz,Anz,Asz,-List.map_set,-List.getD_eq_getElem?_getD,lbT_zero,Cez])
      · intro k hk
        have hkl:=Dwz M k
        by_cases hk5:k < 5
        · have hg:=mkL_getD (L:=M) hk5
          by_cases hin:(k:Int) ∈ M
          · have hidx:((mkL M).map AV.bool)[k]?=some (.bool true):=by
              rw [List.getElem?_map]
              simp [mkL,hk5,hin]
            have e3:=lbT_yes hin
            (repeat' (first
 | (first|refine Akz ?_|refine Aez ?_)
 | ((first|refine Alz ?_|refine Adz ?_|refine Afz ?_|refine Agz ?_);simp (disch:=omega) only [push_cast,seval,l51r0,l51r1,l51r2,l51r3,l51r4,l51r5,l51r6,l51r7,l51r8,l51r9,l51r10,l51r11,l51r12,l51r13,l51r14,l51r15,l51r16,l51r17,l51r18,hidx,hml,List.length_map])
 | ((first|refine Aaz ?_ ?_|refine Acz ?_ ?_|refine Abz ?_ ?_)<;>intro h<;>(try simp only [h])<;>(try simp only [bitvec_to_nat] at h)<;>(try simp only [h])<;>(first|(exfalso;omega)|(exfalso;simp_all;done)|(simp (disch:=omega) only [push_cast,seval,hidx,hml,List.length_map])|skip))
 | ((first|(refine A3z (by kernel_rfl) (by (simp (disch:=omega) only [push_cast,seval,hidx,hml,List.length_map])<;>rfl) ?_)|(refine Awz (t:=23) (sz:=1) (zs:=[.int .i64 0]) (by kernel_rfl) (by (simp (disch:=omega) only [push_cast,seval,hidx,hml,List.length_map])<;>rfl) (by (simp (disch:=omega) only [push_cast,seval,hidx,hml,List.length_map])<;>rfl) (by first|assumption|omega|(constructor<;>omega)) (by first|((simp (disch:=omega) only [push_cast,seval,hidx,hml,List.length_map]);done)|((simp (disch:=omega) only [push_cast,seval,hidx,hml,List.length_map]);exact ⟨rfl,by omega⟩)) ?_)|(refine Awz (t:=0) (sz:=2) (zs:=[.int .i64 0,.int .i64 0]) (by kernel_rfl) (by (simp (disch:=omega) only [push_cast,seval,hidx,hml,List.length_map])<;>rfl) (by (simp (disch:=omega) only [push_cast,seval,hidx,hml,List.length_map])<;>rfl) (by first|assumption|omega|(constructor<;>omega)) (by first|((simp (disch:=omega) only [push_cast,seval,hidx,hml,List.length_map]);done)|((simp (disch:=omega) only [push_cast,seval,hidx,hml,List.length_map]);exact ⟨rfl,by omega⟩)) ?_)|(refine A9z (len:=5) (by kernel_rfl) (by (simp (disch:=omega) only [push_cast,seval,hidx,hml,List.length_map])<;>rfl) (by (simp (disch:=omega) only [push_cast,seval,hidx,hml,List.length_map])<;>rfl) (by first|assumption|omega|(constructor<;>omega)) (by first|rfl|((simp (disch:=omega) only [push_cast,seval,hidx,hml,List.length_map]);rfl)) ?_))<;>(try simp (disch:=omega) only [push_cast,seval,hidx,hml,List.length_map]))
 | (refine Ahz ⟨.inr rfl,[576],[],_,by decide,rfl,?_⟩; (try simp (disch := omega) only [push_cast,seval,↓Amz,↓Aiz,↓List.map_cons,↓List.map_nil,hidx,hml,List.length_map]))))
            refine ⟨k + 1,by omega,by omega,SubW.of ?_⟩
            (refine Sub.of_lists ?_ ?_ ?_ ?_ ?_<;>simp [Vw.mkS,Vw.lk,Vw.hk,AV.inn,innL,Aqz,Anz,Asz,-List.map_set,-List.getD_eq_getElem?_getD,e3,Cez])
          · have hidx:((mkL M).map AV.bool)[k]?=some (.bool false):=by
              rw [List.getElem?_map]
              simp [mkL,hk5,hin]
            have e3:=lbT_no hin
            (repeat' (first
 | (first|refine Akz ?_|refine Aez ?_)
 | ((first|refine Alz ?_|refine Adz ?_|refine Afz ?_|refine Agz ?_);simp (disch:=omega) only [push_cast,seval,l51r0,l51r1,l51r2,l51r3,l51r4,l51r5,l51r6,l51r7,l51r8,l51r9,l51r10,l51r11,l51r12,l51r13,l51r14,l51r15,l51r16,l51r17,l51r18,hidx,hml,List.length_map])
 | ((first|refine Aaz ?_ ?_|refine Acz ?_ ?_|refine Abz ?_ ?_)<;>intro h<;>(try simp only [h])<;>(try simp only [bitvec_to_nat] at h)<;>(try simp only [h])<;>(first|(exfalso;omega)|(exfalso;simp_all;done)|(simp (disch:=omega) only [push_cast,seval,hidx,hml,List.length_map])|skip))
 | ((first|(refine A3z (by kernel_rfl) (by (simp (disch:=omega) only [push_cast,seval,hidx,hml,List.length_map])<;>rfl) ?_)|(refine Awz (t:=23) (sz:=1) (zs:=[.int .i64 0]) (by kernel_rfl) (by (simp (disch:=omega) only [push_cast,seval,hidx,hml,List.length_map])<;>rfl) (by (simp (disch:=omega) only [push_cast,seval,hidx,hml,List.length_map])<;>rfl) (by first|assumption|omega|(constructor<;>omega)) (by first|((simp (disch:=omega) only [push_cast,seval,hidx,hml,List.length_map]);done)|((simp (disch:=omega) only [push_cast,seval,hidx,hml,List.length_map]);exact ⟨rfl,by omega⟩)) ?_)|(refine Awz (t:=0) (sz:=2) (zs:=[.int .i64 0,.int .i64 0]) (by kernel_rfl) (by (simp (disch:=omega) only [push_cast,seval,hidx,hml,List.length_map])<;>rfl) (by (simp (disch:=omega) only [push_cast,seval,hidx,hml,List.length_map])<;>rfl) (by first|assumption|omega|(constructor<;>omega)) (by first|((simp (disch:=omega) only [push_cast,seval,hidx,hml,List.length_map]);done)|((simp (disch:=omega) only [push_cast,seval,hidx,hml,List.length_map]);exact ⟨rfl,by omega⟩)) ?_)|(refine A9z (len:=5) (by kernel_rfl) (by (simp (disch:=omega) only [push_cast,seval,hidx,hml,List.length_map])<;>rfl) (by (simp (disch:=omega) only [push_cast,seval,hidx,hml,List.length_map])<;>rfl) (by first|assumption|omega|(constructor<;>omega)) (by first|rfl|((simp (disch:=omega) only [push_cast,seval,hidx,hml,List.length_map]);rfl)) ?_))<;>(try simp (disch:=omega) only [push_cast,seval,hidx,hml,List.length_map]))
 | (refine Ahz ⟨.inr rfl,[576],[],_,by decide,rfl,?_⟩; (try simp (disch := omega) only [push_cast,seval,↓Amz,↓Aiz,↓List.map_cons,↓List.map_nil,hidx,hml,List.length_map]))))
            refine ⟨k + 1,by omega,by omega,SubW.of ?_⟩
            (refine Sub.of_lists ?_ ?_ ?_ ?_ ?_<;>simp [Vw.mkS,Vw.lk,Vw.hk,AV.inn,innL,Aqz,Anz,Asz,-List.map_set,-List.getD_eq_getElem?_getD,e3,Cez])
        · have e:k=5:=by omega
          subst e
          (repeat' (first
 | (first|refine Akz ?_|refine Aez ?_)
 | ((first|refine Alz ?_|refine Adz ?_|refine Afz ?_|refine Agz ?_);simp (disch:=omega) only [push_cast,seval,l51r0,l51r1,l51r2,l51r3,l51r4,l51r5,l51r6,l51r7,l51r8,l51r9,l51r10,l51r11,l51r12,l51r13,l51r14,l51r15,l51r16,l51r17,l51r18,hml,List.length_map])
 | ((first|refine Aaz ?_ ?_|refine Acz ?_ ?_|refine Abz ?_ ?_)<;>intro h<;>(try simp only [h])<;>(try simp only [bitvec_to_nat] at h)<;>(try simp only [h])<;>(first|(exfalso;omega)|(exfalso;simp_all;done)|(simp (disch:=omega) only [push_cast,seval,hml,List.length_map])|skip))
 | ((first|(refine A3z (by kernel_rfl) (by (simp (disch:=omega) only [push_cast,seval,hml,List.length_map])<;>rfl) ?_)|(refine Awz (t:=23) (sz:=1) (zs:=[.int .i64 0]) (by kernel_rfl) (by (simp (disch:=omega) only [push_cast,seval,hml,List.length_map])<;>rfl) (by (simp (disch:=omega) only [push_cast,seval,hml,List.length_map])<;>rfl) (by first|assumption|omega|(constructor<;>omega)) (by first|((simp (disch:=omega) only [push_cast,seval,hml,List.length_map]);done)|((simp (disch:=omega) only [push_cast,seval,hml,List.length_map]);exact ⟨rfl,by omega⟩)) ?_)|(refine Awz (t:=0) (sz:=2) (zs:=[.int .i64 0,.int .i64 0]) (by kernel_rfl) (by (simp (disch:=omega) only [push_cast,seval,hml,List.length_map])<;>rfl) (by (simp (disch:=omega) only [push_cast,seval,hml,List.length_map])<;>rfl) (by first|assumption|omega|(constructor<;>omega)) (by first|((simp (disch:=omega) only [push_cast,seval,hml,List.length_map]);done)|((simp (disch:=omega) only [push_cast,seval,hml,List.length_map]);exact ⟨rfl,by omega⟩)) ?_)|(refine A9z (len:=5) (by kernel_rfl) (by (simp (disch:=omega) only [push_cast,seval,hml,List.length_map])<;>rfl) (by (simp (disch:=omega) only [push_cast,seval,hml,List.length_map])<;>rfl) (by first|assumption|omega|(constructor<;>omega)) (by first|rfl|((simp (disch:=omega) only [push_cast,seval,hml,List.length_map]);rfl)) ?_))<;>(try simp (disch:=omega) only [push_cast,seval,hml,List.length_map]))
 | (refine Ahz ⟨.inr rfl,[576],[],_,by decide,rfl,?_⟩; (try simp (disch := omega) only [push_cast,seval,↓Amz,↓Aiz,↓List.map_cons,↓List.map_nil,hml,List.length_map]))))
          all_goals (first|exact ⟨rfl,rfl⟩|skip)


set_option maxHeartbeats 8000000 in
theorem tblOf_ok (e xs:List Int) (n:Nat) (hn:xs.length=n) (hb:e.length=5 ∧ n ≤ 1099511627776 ∧ ∀ x ∈ xs,0 ≤ x ∧ x ≤ 4):BCall Try.prog 53 [.agg (IL e),.rows false (IL xs) n] [] (OI (xs.map (gE e))):=by
  subst hn
  obtain ⟨h5,hb0,hb1⟩:=hb
  refine A8z (pins:=[]) (pin:=0) l53_eq rfl rfl rfl ?_
  (repeat' (first
 | (first|refine Akz ?_|refine Aez ?_)
 | ((first|refine Alz ?_|refine Adz ?_|refine Afz ?_|refine Agz ?_);simp (disch:=omega) only [push_cast,seval,l53r0,l53r1,l53r2,l53r3,l53r4,l53r5,l53r6,l53r7,h5])
 | ((first|refine Aaz ?_ ?_|refine Acz ?_ ?_|refine Abz ?_ ?_)<;>intro h<;>(try simp only [h])<;>(try simp only [bitvec_to_nat] at h)<;>(try simp only [h])<;>(first|(exfalso;omega)|(exfalso;simp_all;done)|(simp (disch:=omega) only [push_cast,seval,h5])|skip))
 | (refine Ahz ⟨.inr rfl,[160],[],_,by decide,rfl,?_⟩;(try simp (disch:=omega) only [push_cast,seval,↓Amz,↓Aiz,↓List.map_cons,↓List.map_nil,h5]))))
  refine A1z (fun k:Nat=>mkS [(2,.ref 32 5 0),(5,.own 160 xs.length 1),(11,RI xs),(12,.int .i64 xs.length),(13,.int .i64 k)] [(32,IL e),(160,IL (filled (fun i:Nat=>gE e (xs.getD i 0)) xs.length k))])
    (fun k=>k ≤ xs.length) (fun k=>xs.length - k) 0 (Nat.zero_le _) ?_ ?_
  · (refine Sub.of_lists ?_ ?_ ?_ ?_ ?_<;>simp [Vw.mkS,Vw.lk,Vw.hk,AV.inn,innL,Aqz,Anz,Asz,-List.map_set,-List.getD_eq_getElem?_getD,E4z])
  · intro k hk
    by_cases hlt:k < xs.length
    · have hx:=hb1 _ (A2z hlt)
      obtain ⟨c,hc⟩:∃ c:Nat,xs.getD k 0=c:=⟨(xs.getD k 0).toNat,by omega⟩
      have hc5:c < 5:=by omega
      have hs:=Elz (fun i:Nat=>gE e (xs.getD i 0)) xs.length k hlt
      have hge:gE e (xs.getD k 0)=e.getD c 0:=by unfold gE;rw [hc,Int.toNat_natCast]
      simp only [hge] at hs
      (repeat' (first
 | (first|refine Akz ?_|refine Aez ?_)
 | ((first|refine Alz ?_|refine Adz ?_|refine Afz ?_|refine Agz ?_);simp (disch:=omega) only [push_cast,seval,l53r0,l53r1,l53r2,l53r3,l53r4,l53r5,l53r6,l53r7,h5,hc])
 | ((first|refine Aaz ?_ ?_|refine Acz ?_ ?_|refine Abz ?_ ?_)<;>intro h<;>(try simp only [h])<;>(try simp only [bitvec_to_nat] at h)<;>(try simp only [h])<;>(first|(exfalso;omega)|(exfalso;simp_all;done)|(simp (disch:=omega) only [push_cast,seval,h5,hc])|skip))
 | (refine Ahz ⟨.inr rfl,[160],[],_,by decide,rfl,?_⟩;(try simp (disch:=omega) only [push_cast,seval,↓Amz,↓Aiz,↓List.map_cons,↓List.map_nil,h5,hc]))))
      refine ⟨k + 1,by omega,by omega,?_⟩
      (refine Sub.of_lists ?_ ?_ ?_ ?_ ?_<;>simp [Vw.mkS,Vw.lk,Vw.hk,AV.inn,innL,Aqz,Anz,Asz,-List.map_set,-List.getD_eq_getElem?_getD,Byz,hs])
    · have ek:k=xs.length:=by omega
      have hfin:filled (fun i:Nat=>gE e (xs.getD i 0)) xs.length xs.length=xs.map (gE e):=by
        rw [Fwz]
        have:=congrArg (List.map (gE e)) (filled_getD xs)
        rw [List.map_map] at this
        exact this
      rw [ek,hfin]
      (repeat' (first
 | (first|refine Akz ?_|refine Aez ?_)
 | ((first|refine Alz ?_|refine Adz ?_|refine Afz ?_|refine Agz ?_);simp (disch:=omega) only [push_cast,seval,l53r0,l53r1,l53r2,l53r3,l53r4,l53r5,l53r6,l53r7,h5,List.length_map])
 | ((first|refine Aaz ?_ ?_|refine Acz ?_ ?_|refine Abz ?_ ?_)<;>intro h<;>(try simp only [h])<;>(try simp only [bitvec_to_nat] at h)<;>(try simp only [h])<;>(first|(exfalso;omega)|(exfalso;simp_all;done)|(simp (disch:=omega) only [push_cast,seval,h5,List.length_map])|skip))
 | (refine Ahz ⟨.inr rfl,[160],[],_,by decide,rfl,?_⟩;(try simp (disch:=omega) only [push_cast,seval,↓Amz,↓Aiz,↓List.map_cons,↓List.map_nil,h5,List.length_map]))))
      all_goals (try simp [OI])


theorem costOf_ok (e:List Int) (ls:List (List Int)) (n:Nat) (hn:ls.length=n) (hb:e.length=5 ∧ n ≤ 1099511627776 ∧ (∀ l ∈ ls,l.length ≤ 1099511627776) ∧ (∀ l ∈ ls,∀ x ∈ l,0 ≤ x ∧ x ≤ 4) ∧ ∀ l ∈ ls,∀ x ∈ l,0 ≤ gE e x ∧ gE e x ≤ 60):PCall Try.prog 52 [.agg (IL e),.rows false (LL false ls) n] (fun r=>r=.int .i64 (pr ((lbS ls.flatten).map (gE e)))):=by
  subst hn
  obtain ⟨h5,hb0,hb1,hb2,hb3⟩:=hb
  have q1:ls.length ≤ 1099511627776 ∧ (∀ l ∈ ls,l.length ≤ 1099511627776) ∧ ∀ l ∈ ls,∀ x ∈ l,0 ≤ x ∧ x ≤ 4:=⟨hb0,hb1,hb2⟩
  have hll:=Dwz ls.flatten 5
  have q2:e.length=5 ∧ (lbS ls.flatten).length ≤ 1099511627776 ∧ ∀ x ∈ lbS ls.flatten,0 ≤ x ∧ x ≤ 4:=⟨h5,by show (lbT _ 5).length ≤ _;omega,fun x hx=>(Dtz.1 hx).1⟩
  have q3:good9 ((lbS ls.flatten).map (gE e)):=by
    refine ⟨fun x hx=>?_,by rw [List.length_map];show (lbT _ 5).length ≤ _;omega⟩
    obtain ⟨y,hy,rfl⟩:=List.mem_map.1 hx
    obtain ⟨l,hl,hyl⟩:=List.mem_flatten.1 (Dtz.1 hy).2
    exact hb3 l hl y hyl
  have t5:=tak5 h5
  refine A0z l52_eq rfl ?_
  generalize hM:lbS ls.flatten=M at *
  have hml:M.length=(M.map (gE e)).length:=by rw [List.length_map]
  generalize hW:M.map (gE e)=W at *
  (repeat' (first
 | (first|refine Akz ?_|refine Aez ?_)
 | ((first|refine Alz ?_|refine Arz (mid:=l52r1a) (post:=l52r1b) Axz (by decide) ?_|refine Adz ?_|refine Afz ?_|refine Agz ?_);simp (disch:=omega) only [push_cast,seval,l52r0,l52r1a,l52r1b,l52r1,h5,t5,hM,hW,hml,Ajz])
 | ((first|refine Aaz ?_ ?_|refine Acz ?_ ?_|refine Abz ?_ ?_)<;>intro h<;>(try simp only [h])<;>(try simp only [bitvec_to_nat] at h)<;>(try simp only [h])<;>(first|(exfalso;omega)|(exfalso;simp_all;done)|(simp (disch:=omega) only [push_cast,seval,h5,t5,hM,hW,hml,Ajz])|skip))
 | ((first|refine Apz false ?_|refine qcallD_of false ?_);simp (disch:=omega) only [push_cast,seval,h5,t5,hM,hW,hml,Ajz])
 | ((first|((first|refine call0D (labelsOf_ok _ _ ?_ ?_) ?_|refine qcall0D (BCall.ofP (plainI (labelsOf_ok _ _ ?_ ?_))) ⟨_,_,rfl,rfl⟩ ?_);(iterate 2 (exact sd));rintro _ _ ⟨rfl,rfl⟩)|((first|refine call0D (tblOf_ok _ _ _ ?_ ?_) ?_|refine qcall0D (BCall.ofP (plainI (tblOf_ok _ _ _ ?_ ?_))) ⟨_,_,rfl,rfl⟩ ?_);(iterate 2 (exact sd));rintro _ _ ⟨rfl,rfl⟩)|((first|refine call0D (BCall.ofP (product9_ok _ _ ?_ ?_)) ?_|refine qcall0D (BCall.ofP (product9_ok _ _ ?_ ?_)) ⟨_,_,rfl,rfl⟩ ?_);(iterate 2 (exact sd));rintro _ _ ⟨rfl,rfl⟩))<;>(try simp (disch:=omega) only [push_cast,seval,h5,t5,hM,hW,hml,Ajz]))
 | (refine Ahz ⟨.inr rfl,_,rfl,?_⟩;(try simp (disch:=omega) only [push_cast,seval,h5,t5,hM,hW,hml,Ajz]))))

end Go.Proofs.Ytfmogaimamphdaa
set_option linter.unusedSimpArgs false
set_option linter.unusedVariables false
set_option maxRecDepth 4000
set_option maxHeartbeats 4000000
namespace Go.Proofs.Ytfmogaimamphdaa
open VwM Vw Go

abbrev OX (o:Option (List Int)):AV → List (List AV) → Prop:=fun r H'=>r=.tup [.own 0 (o.getD []).length 1,.bool o.isSome] ∧ H'=[IL (o.getD [])]


/-- The cost of a contraction. -/
def coI (ts:List Tn) (ls:List (List Int)):Int:=match exO ts ls with|none=>-1|some e=>pr (spE e)
theorem exO_some {ts:List Tn} {ls:List (List Int)} {e:List Int} (h:exO ts ls=some e):ts.all vT=true ∧ (1 ≤ ts.length ∧ ts.length ≤ 3) ∧ ls.length=ts.length ∧ exT ts ls=some e:=by
  unfold exO at h
  split at h
  · rename_i hc
    simp only [Bool.and_eq_true,decide_eq_true_eq] at hc
    exact ⟨hc.1.1,hc.1.2,hc.2,h⟩
  · cases h
theorem exO_facts {ts:List Tn} {ls:List (List Int)} {e:List Int} (h:exO ts ls=some e) :
    e.length=5 ∧ (∀ k:Nat,k < 5 → (k:Int) ∉ ls.flatten → e.getD k 0 < 0) ∧ (∀ k:Nat,k < 5 → (k:Int) ∈ ls.flatten → 0 ≤ e.getD k 0 ∧ e.getD k 0 ≤ 60) ∧ (∀ k:Nat,k < 5 → -1 ≤ e.getD k 0) ∧
    (∀ x ∈ ls.flatten,0 ≤ x ∧ x ≤ 4) ∧ (∀ (i:Nat) (t:Tn) (l:List Int),ts[i]?=some t → ls[i]?=some l → l.length=t.1.length ∧ ∀ j,j < l.length → gE e (l.getD j 0)=t.1.getD j 0) ∧ (∀ t ∈ ts,vT t=true) ∧ ls.length=ts.length:=by
  obtain ⟨h1,h2,h3,h4⟩:=exO_some h
  have hv:=List.all_eq_true.1 h1
  obtain ⟨a,b,c,d,f,g⟩:=exT_facts h3 (fun t ht=>(B6z.1 (hv t ht)).1) h4
  exact ⟨a,b,c,d,f,g,hv,h3⟩
/-- With labels of the result,the program asks the same. -/
theorem exP_eq (ts:List Tn) (ls:List (List Int)) (out:List Int):exP ts ls out=if allI out 0 4=true then exO ts ls else none:=by
  unfold exP agO exO
  cases h1:allI out 0 4<;>cases h2:ts.all vT<;>cases h3:decide (ls.length=ts.length)<;>cases h4:(decide (1 ≤ ts.length) && decide (ts.length ≤ 3))<;>simp
end Go.Proofs.Ytfmogaimamphdaa
set_option linter.unusedSimpArgs false
set_option linter.unusedVariables false
set_option maxRecDepth 4000
set_option maxHeartbeats 4000000
namespace Go.Proofs.Ytfmogaimamphdaa
open VwM Vw Go

set_option maxHeartbeats 8000000 in
theorem iwithout_ok (xs ys:List Int) (n m:Nat) (hn:xs.length=n) (hm:ys.length=m) (hb:n ≤ 1099511627776 ∧ m ≤ 1099511627776):BCall Try.prog 36 [.rows false (IL xs) n,.rows false (IL ys) m] [] (OI (wiL xs ys)):=by
  subst hn hm
  obtain ⟨hb0,hb1⟩:=hb
  refine A8z (pins:=[]) (pin:=0) l36_eq rfl rfl rfl ?_
  (repeat' (first
 | (first|refine Akz ?_|refine Aez ?_)
 | ((first|refine Alz ?_|refine Adz ?_|refine Afz ?_|refine Agz ?_);simp (disch:=omega) only [push_cast,seval,l36r0,l36r1,l36r2,l36r3,l36r4,l36r5,l36r6,l36r7,l36r8])
 | ((first|refine Aaz ?_ ?_|refine Acz ?_ ?_|refine Abz ?_ ?_)<;>intro h<;>(try simp only [h])<;>(try simp only [bitvec_to_nat] at h)<;>(try simp only [h])<;>(first|(exfalso;omega)|(exfalso;simp_all;done)|(simp (disch:=omega) only [push_cast,seval])|skip))
 | ((first|refine Apz false ?_|refine qcallD_of false ?_);simp (disch:=omega) only [push_cast,seval])
 | ((first|((first|refine call0D (BCall.ofP (Azz _ _ _ ?_ ?_)) ?_|refine qcall0D (BCall.ofP (Azz _ _ _ ?_ ?_)) ⟨_,_,rfl,rfl⟩ ?_);(iterate 2 (exact sd));rintro _ _ ⟨rfl,rfl⟩))<;>(try simp (disch:=omega) only [push_cast,seval]))
 | (refine Ahz ⟨.inr rfl,[336],[],_,by decide,rfl,?_⟩;(try simp (disch:=omega) only [push_cast,seval,↓Amz,↓Aiz,↓List.map_cons,↓List.map_nil]))))
  refine C9z (fun k:Nat=>mkS [(1,RI ys),(5,.own 336 (wiL (xs.take k) ys).length 1),(8,RI xs),(9,.int .i64 xs.length),(10,.int .i64 k)] [(336,IL (wiL (xs.take k) ys))]) (fun k=>k ≤ xs.length) (fun k=>xs.length - k) 0 (Nat.zero_le _) ?_ ?_
  · refine SubW.adopt [5] 336 1 (by simp [Vw.hk]) (SubW.of ?_)
    simp only [adL,List.map_cons,List.map_nil,adA,List.contains_cons,List.contains_nil]
    have e0:wiL [] ys=[]:=rfl
    (refine Sub.of_lists ?_ ?_ ?_ ?_ ?_<;>simp [Vw.mkS,Vw.lk,Vw.hk,AV.inn,innL,Aqz,Anz,Asz,-List.map_set,-List.getD_eq_getElem?_getD,e0])
  · intro k hk
    have hwl:=wiL_len (xs.take k) ys
    rw [List.length_take] at hwl
    by_cases hlt:k < xs.length
    · by_cases hin:xs.getD k 0 ∈ ys
      · have e3:=wiL_in hlt hin
        generalize hU:wiL (xs.take k) ys=U at *
        (repeat' (first
 | (first|refine Akz ?_|refine Aez ?_)
 | ((first|refine Alz ?_|refine Adz ?_|refine Afz ?_|refine Agz ?_);simp (disch:=omega) only [push_cast,seval,l36r0,l36r1,l36r2,l36r3,l36r4,l36r5,l36r6,l36r7,l36r8,hin,decide_true])
 | ((first|refine Aaz ?_ ?_|refine Acz ?_ ?_|refine Abz ?_ ?_)<;>intro h<;>(try simp only [h])<;>(try simp only [bitvec_to_nat] at h)<;>(try simp only [h])<;>(first|(exfalso;omega)|(exfalso;simp_all;done)|(simp (disch:=omega) only [push_cast,seval,hin,decide_true])|skip))
 | ((first|refine Apz false ?_|refine qcallD_of false ?_);simp (disch:=omega) only [push_cast,seval,hin,decide_true])
 | ((first|((first|refine call0D (BCall.ofP (Azz _ _ _ ?_ ?_)) ?_|refine qcall0D (BCall.ofP (Azz _ _ _ ?_ ?_)) ⟨_,_,rfl,rfl⟩ ?_);(iterate 2 (exact sd));rintro _ _ ⟨rfl,rfl⟩))<;>(try simp (disch:=omega) only [push_cast,seval,hin,decide_true]))
 | (refine Ahz ⟨.inr rfl,[336],[],_,by decide,rfl,?_⟩;(try simp (disch:=omega) only [push_cast,seval,↓Amz,↓Aiz,↓List.map_cons,↓List.map_nil,hin,decide_true]))))
        refine ⟨k + 1,by omega,by omega,SubW.of ?_⟩
        (refine Sub.of_lists ?_ ?_ ?_ ?_ ?_<;>simp [Vw.mkS,Vw.lk,Vw.hk,AV.inn,innL,Aqz,Anz,Asz,-List.map_set,-List.getD_eq_getElem?_getD,e3])
      · have e3:=wiL_out hlt hin
        generalize hU:wiL (xs.take k) ys=U at *
        (repeat' (first
 | (first|refine Akz ?_|refine Aez ?_)
 | ((first|refine Alz ?_|refine Adz ?_|refine Afz ?_|refine Agz ?_);simp (disch:=omega) only [push_cast,seval,l36r0,l36r1,l36r2,l36r3,l36r4,l36r5,l36r6,l36r7,l36r8,hin,decide_false,List.length_map])
 | ((first|refine Aaz ?_ ?_|refine Acz ?_ ?_|refine Abz ?_ ?_)<;>intro h<;>(try simp only [h])<;>(try simp only [bitvec_to_nat] at h)<;>(try simp only [h])<;>(first|(exfalso;omega)|(exfalso;simp_all;done)|(simp (disch:=omega) only [push_cast,seval,hin,decide_false,List.length_map])|skip))
 | ((first|refine Apz false ?_|refine qcallD_of false ?_);simp (disch:=omega) only [push_cast,seval,hin,decide_false,List.length_map])
 | ((first|((first|refine call0D (BCall.ofP (Azz _ _ _ ?_ ?_)) ?_|refine qcall0D (BCall.ofP (Azz _ _ _ ?_ ?_)) ⟨_,_,rfl,rfl⟩ ?_);(iterate 2 (exact sd));rintro _ _ ⟨rfl,rfl⟩))<;>(try simp (disch:=omega) only [push_cast,seval,hin,decide_false,List.length_map]))
 | (refine Ahz ⟨.inr rfl,[336],[],_,by decide,rfl,?_⟩;(try simp (disch:=omega) only [push_cast,seval,↓Amz,↓Aiz,↓List.map_cons,↓List.map_nil,hin,decide_false,List.length_map]))))
        refine ⟨k + 1,by omega,by omega,SubW.of ?_⟩
        (refine Sub.of_lists ?_ ?_ ?_ ?_ ?_<;>simp [Vw.mkS,Vw.lk,Vw.hk,AV.inn,innL,Aqz,Anz,Asz,-List.map_set,-List.getD_eq_getElem?_getD,e3])
    · rw [List.take_of_length_le (by omega)] at hwl ⊢
      (repeat' (first
 | (first|refine Akz ?_|refine Aez ?_)
 | ((first|refine Alz ?_|refine Adz ?_|refine Afz ?_|refine Agz ?_);simp (disch:=omega) only [push_cast,seval,l36r0,l36r1,l36r2,l36r3,l36r4,l36r5,l36r6,l36r7,l36r8,List.length_map])
 | ((first|refine Aaz ?_ ?_|refine Acz ?_ ?_|refine Abz ?_ ?_)<;>intro h<;>(try simp only [h])<;>(try simp only [bitvec_to_nat] at h)<;>(try simp only [h])<;>(first|(exfalso;omega)|(exfalso;simp_all;done)|(simp (disch:=omega) only [push_cast,seval,List.length_map])|skip))
 | ((first|refine Apz false ?_|refine qcallD_of false ?_);simp (disch:=omega) only [push_cast,seval,List.length_map])
 | ((first|((first|refine call0D (BCall.ofP (Azz _ _ _ ?_ ?_)) ?_|refine qcall0D (BCall.ofP (Azz _ _ _ ?_ ?_)) ⟨_,_,rfl,rfl⟩ ?_);(iterate 2 (exact sd));rintro _ _ ⟨rfl,rfl⟩))<;>(try simp (disch:=omega) only [push_cast,seval,List.length_map]))
 | (refine Ahz ⟨.inr rfl,[336],[],_,by decide,rfl,?_⟩;(try simp (disch:=omega) only [push_cast,seval,↓Amz,↓Aiz,↓List.map_cons,↓List.map_nil,List.length_map]))))
      all_goals (first|exact ⟨rfl,rfl⟩|skip)


def sumLen (ls:List (List Int)) (k:Nat):Nat:=(ls.take k).flatten.length
theorem costOf2_ok (e a b:List Int) (n m:Nat) (hn:a.length=n) (hm:b.length=m) (hb:e.length=5 ∧ (n ≤ 1099511627776 ∧ m ≤ 1099511627776) ∧ ((∀ x ∈ a,0 ≤ x ∧ x ≤ 4) ∧ ∀ x ∈ b,0 ≤ x ∧ x ≤ 4) ∧ (∀ x ∈ a,0 ≤ gE e x ∧ gE e x ≤ 60) ∧ ∀ x ∈ b,0 ≤ gE e x ∧ gE e x ≤ 60):PCall Try.prog 52 [.agg (IL e),.rows false [.rows false (IL a) n,.rows false (IL b) m] 2] (fun r=>r=.int .i64 (pr ((lbS (a ++ b)).map (gE e)))):=by
  subst hn hm
  have h:=costOf_ok e [a,b] 2 rfl ⟨hb.1,by omega,fun l hl=>by simp at hl;rcases hl with rfl|rfl<;>omega,fun l hl=>by
    simp at hl;rcases hl with rfl|rfl
    · exact hb.2.2.1.1
    · exact hb.2.2.1.2,fun l hl=>by
    simp at hl;rcases hl with rfl|rfl
    · exact hb.2.2.2.1
    · exact hb.2.2.2.2⟩
  have e2:([a,b]:List (List Int)).flatten=a ++ b:=by simp
  rw [e2] at h
  exact h

end Go.Proofs.Ytfmogaimamphdaa
set_option linter.unusedSimpArgs false
set_option linter.unusedVariables false
set_option maxRecDepth 4000
set_option maxHeartbeats 4000000
namespace Go.Proofs.Ytfmogaimamphdaa
open VwM Vw Go

end Go.Proofs.Ytfmogaimamphdaa
set_option linter.unusedSimpArgs false
set_option linter.unusedVariables false
set_option maxRecDepth 4000
set_option maxHeartbeats 4000000
namespace Go.Proofs.Ytfmogaimamphdaa
open VwM Vw Go

/-- What the inner loop of the cost by two has found after q lists. -/
def rcO (e:List Int) (ls:List (List Int)) (K:List Int) (i j k q:Nat):Int:=if (k:Int) ∈ (besT ls i j q).flatten ∨ (0 < q ∧ (k:Int) ∈ K) then e.getD k 0 else -1
end Go.Proofs.Ytfmogaimamphdaa
set_option linter.unusedSimpArgs false
set_option linter.unusedVariables false
set_option maxRecDepth 4000
set_option maxHeartbeats 4000000
namespace Go.Proofs.Ytfmogaimamphdaa
open VwM Vw Go

def pairB (i j:Int) (n:Nat):Bool:=!decide (i=j) && (decide (0 ≤ i) && decide (i ≤ (n:Int) - 1)) && (decide (0 ≤ j) && decide (j ≤ (n:Int) - 1))
def cbI (ts:List Tn) (ls:List (List Int)) (out:List Int) (i j:Int):Int:=match exP ts ls out with|none=>-1|some e=>if pairB i j ts.length=true then cbN e ls out i.toNat j.toNat else -1
end Go.Proofs.Ytfmogaimamphdaa
