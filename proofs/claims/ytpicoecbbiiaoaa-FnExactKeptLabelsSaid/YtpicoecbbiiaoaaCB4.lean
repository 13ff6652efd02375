/- Texts of this verifier. -/
import Derived.Test.YtpicoecbbiiaoaaCB3
import Derived.Test.YtpicoecbbiiaoaaCM1
import Derived.Test.YtpicoecbbiiaoaaCW3
set_option linter.unusedSimpArgs false
set_option linter.unusedVariables false
set_option maxRecDepth 4000
set_option maxHeartbeats 4000000
namespace Go.Proofs.Ytpicoecbbiiaoaa
open VwM Vw Go

def exP (ts:List Tn) (ls:List (List Int)) (out:List Int):Option (List Int):=if (decide (1 ≤ ts.length) && decide (ts.length ≤ 3) && decide (ls.length=ts.length) && allI out 0 4)=true then agO ts ls else none
theorem exP_no {ts:List Tn} {ls:List (List Int)} {out:List Int} (h:(decide (1 ≤ ts.length) && decide (ts.length ≤ 3) && decide (ls.length=ts.length) && allI out 0 4)=false):exP ts ls out=none:=by unfold exP;rw [h];rfl
theorem exP_yes {ts:List Tn} {ls:List (List Int)} {out:List Int} (h:(decide (1 ≤ ts.length) && decide (ts.length ≤ 3) && decide (ls.length=ts.length) && allI out 0 4)=true):exP ts ls out=agO ts ls:=by unfold exP;rw [h];rfl
theorem Cvz {α:Type} {e:List Int} (h:e.length=5) (a b:α):(if e.length=5 then a else b)=a:=if_pos h


set_option maxHeartbeats 16000000 in
theorem Ckz (ts:List Tn) (ls:List (List Int)) (out:List Int) (n m q:Nat) (hn:ts.length=n) (hm:ls.length=m) (hq:out.length=q) (hb:n ≤ 1099511627776 ∧ m ≤ 1099511627776 ∧ q ≤ 1099511627776 ∧ (∀ t ∈ ts,t.1.length ≤ 1099511627776 ∧ t.2.length ≤ 1099511627776) ∧ ∀ l ∈ ls,l.length ≤ 1099511627776) :
    PCall Try.prog 51 [.rows false (TL false ts) n,.rows false (LL false ls) m,.rows false (IL out) q] (fun r=>∃ g:List Int,((exP ts ls out).getD g).length=5 ∧ r=.tup [.agg (IL ((exP ts ls out).getD g)),.bool (exP ts ls out).isSome]):=by
  subst hn hm hq
  obtain ⟨hb0,hb1,hb2,hb3,hb4⟩:=hb
  have hb3':∀ (a b:List Int),(a,b) ∈ ts → a.length ≤ 1099511627776 ∧ b.length ≤ 1099511627776:=fun a b h=>hb3 _ h
  refine A0z l51_eq rfl ?_
  have htl:=Bez false ts
  have hll:=A3z false ls
  have s0:=set5 (e:=ext0) rfl
  have l0:=B5z
  by_cases h1:(ts.length:Int) < 1
  · have hno:=exP_no (ts:=ts) (ls:=ls) (out:=out) (by simp;omega)
    rw [hno]
    (repeat' (first
 | (first|refine Amz ?_|refine Agz ?_)
 | ((first|refine Anz ?_|refine Afz ?_|refine Ahz ?_|refine Aiz ?_);simp (disch:=omega) only [push_cast,seval,l51r0,l51r1,l51r2,l51r3,h1,s0,l0,Abz,Aaz])
 | ((first|refine Acz ?_ ?_|refine Aez ?_ ?_|refine Adz ?_ ?_)<;>intro h<;>(try simp only [h])<;>(try simp only [bitvec_to_nat] at h)<;>(try simp only [h])<;>(first|(exfalso;omega)|(exfalso;simp_all;done)|(simp (disch:=omega) only [push_cast,seval,h1,s0,l0,Abz,Aaz])|skip))
 | ((first|refine Apz false ?_|refine Akz false ?_);simp (disch:=omega) only [push_cast,seval,h1,s0,l0,Abz,Aaz])
 | ((first|((first|refine call0D (BCall.ofP (ivL_ok _ _ ?_ ?_)) ?_|refine qcall0D (BCall.ofP (ivL_ok _ _ ?_ ?_)) ⟨_,_,rfl,rfl⟩ ?_);(iterate 2 (exact sd));rintro _ _ ⟨rfl,rfl⟩)|((first|refine call0D (BCall.ofP (unused_ok)) ?_|refine qcall0D (BCall.ofP (unused_ok)) ⟨_,_,rfl,rfl⟩ ?_);rintro _ _ ⟨rfl,rfl⟩)|(refine call0D (BCall.ofP (agreed_ok _ _ _ _ ?_ ?_ ?_)) ?_;(iterate 3 (exact sd));rintro _ _ ⟨⟨g,hg5,rfl⟩,rfl⟩))<;>(try simp (disch:=omega) only [push_cast,seval,h1,s0,l0,Abz,Aaz]))
 | ((first|refine Ajz ⟨.inr rfl,_,rfl,?_⟩|refine Ajz ⟨.inr rfl,_,Bcz rfl rfl (by assumption) rfl,?_⟩);(try simp (disch:=omega) only [push_cast,seval,h1,s0,l0,Abz,Aaz]))))
    all_goals exact ⟨ext0,rfl,rfl⟩
  · by_cases h2:(3:Int) < (ts.length:Int)
    · have hno:=exP_no (ts:=ts) (ls:=ls) (out:=out) (by simp;omega)
      rw [hno]
      (repeat' (first
 | (first|refine Amz ?_|refine Agz ?_)
 | ((first|refine Anz ?_|refine Afz ?_|refine Ahz ?_|refine Aiz ?_);simp (disch:=omega) only [push_cast,seval,l51r0,l51r1,l51r2,l51r3,h1,h2,s0,l0,Abz,Aaz])
 | ((first|refine Acz ?_ ?_|refine Aez ?_ ?_|refine Adz ?_ ?_)<;>intro h<;>(try simp only [h])<;>(try simp only [bitvec_to_nat] at h)<;>(try simp only [h])<;>(first|(exfalso;omega)|(exfalso;simp_all;done)|(simp (disch:=omega) only [push_cast,seval,h1,h2,s0,l0,Abz,Aaz])|skip))
 | ((first|refine Apz false ?_|refine Akz false ?_);simp (disch:=omega) only [push_cast,seval,h1,h2,s0,l0,Abz,Aaz])
 | ((first|((first|refine call0D (BCall.ofP (ivL_ok _ _ ?_ ?_)) ?_|refine qcall0D (BCall.ofP (ivL_ok _ _ ?_ ?_)) ⟨_,_,rfl,rfl⟩ ?_);(iterate 2 (exact sd));rintro _ _ ⟨rfl,rfl⟩)|((first|refine call0D (BCall.ofP (unused_ok)) ?_|refine qcall0D (BCall.ofP (unused_ok)) ⟨_,_,rfl,rfl⟩ ?_);rintro _ _ ⟨rfl,rfl⟩)|(refine call0D (BCall.ofP (agreed_ok _ _ _ _ ?_ ?_ ?_)) ?_;(iterate 3 (exact sd));rintro _ _ ⟨⟨g,hg5,rfl⟩,rfl⟩))<;>(try simp (disch:=omega) only [push_cast,seval,h1,h2,s0,l0,Abz,Aaz]))
 | ((first|refine Ajz ⟨.inr rfl,_,rfl,?_⟩|refine Ajz ⟨.inr rfl,_,Bcz rfl rfl (by assumption) rfl,?_⟩);(try simp (disch:=omega) only [push_cast,seval,h1,h2,s0,l0,Abz,Aaz]))))
      all_goals exact ⟨ext0,rfl,rfl⟩
    · by_cases h3:ls.length=ts.length
      · have h3':(ls.length:Int)=ts.length:=by omega
        cases h4:allI out 0 4 with
        | false =>
          have hno:=exP_no (ts:=ts) (ls:=ls) (out:=out) (by simp [h4])
          rw [hno]
          (repeat' (first
 | (first|refine Amz ?_|refine Agz ?_)
 | ((first|refine Anz ?_|refine Afz ?_|refine Ahz ?_|refine Aiz ?_);simp (disch:=omega) only [push_cast,seval,l51r0,l51r1,l51r2,l51r3,h1,h2,h3',h4,s0,l0,Abz,Aaz])
 | ((first|refine Acz ?_ ?_|refine Aez ?_ ?_|refine Adz ?_ ?_)<;>intro h<;>(try simp only [h])<;>(try simp only [bitvec_to_nat] at h)<;>(try simp only [h])<;>(first|(exfalso;omega)|(exfalso;simp_all;done)|(simp (disch:=omega) only [push_cast,seval,h1,h2,h3',h4,s0,l0,Abz,Aaz])|skip))
 | ((first|refine Apz false ?_|refine Akz false ?_);simp (disch:=omega) only [push_cast,seval,h1,h2,h3',h4,s0,l0,Abz,Aaz])
 | ((first|((first|refine call0D (BCall.ofP (ivL_ok _ _ ?_ ?_)) ?_|refine qcall0D (BCall.ofP (ivL_ok _ _ ?_ ?_)) ⟨_,_,rfl,rfl⟩ ?_);(iterate 2 (exact sd));rintro _ _ ⟨rfl,rfl⟩)|((first|refine call0D (BCall.ofP (unused_ok)) ?_|refine qcall0D (BCall.ofP (unused_ok)) ⟨_,_,rfl,rfl⟩ ?_);rintro _ _ ⟨rfl,rfl⟩)|(refine call0D (BCall.ofP (agreed_ok _ _ _ _ ?_ ?_ ?_)) ?_;(iterate 3 (exact sd));rintro _ _ ⟨⟨g,hg5,rfl⟩,rfl⟩))<;>(try simp (disch:=omega) only [push_cast,seval,h1,h2,h3',h4,s0,l0,Abz,Aaz]))
 | ((first | refine Ajz ⟨.inr rfl,_,rfl,?_⟩ | refine Ajz ⟨.inr rfl,_,Bcz rfl rfl (by assumption) rfl,?_⟩); (try simp (disch := omega) only [push_cast,seval,h1,h2,h3',h4,s0,l0,Abz,Aaz]))))
          all_goals exact ⟨ext0,rfl,rfl⟩
        | true =>
          rw [exP_yes (by simp [h3,h4];omega)]
          have q1:ls.length=ts.length ∧ ts.length ≤ 1099511627776 ∧ (∀ t ∈ ts,t.1.length ≤ 1099511627776 ∧ t.2.length ≤ 1099511627776) ∧ ∀ l ∈ ls,l.length ≤ 1099511627776:=⟨h3,hb0,hb3,hb4⟩
          (repeat' (first
 | (first|refine Amz ?_|refine Agz ?_)
 | ((first|refine Anz ?_|refine Afz ?_|refine Ahz ?_|refine Aiz ?_);simp (disch:=omega) only [push_cast,seval,l51r0,l51r1,l51r2,l51r3,h1,h2,h3',h4,set5,tak5,Cvz,Abz,Aaz])
 | ((first|refine Acz ?_ ?_|refine Aez ?_ ?_|refine Adz ?_ ?_)<;>intro h<;>(try simp only [h])<;>(try simp only [bitvec_to_nat] at h)<;>(try simp only [h])<;>(first|(exfalso;omega)|(exfalso;simp_all;done)|(simp (disch:=omega) only [push_cast,seval,h1,h2,h3',h4,set5,tak5,Cvz,Abz,Aaz])|skip))
 | ((first|refine Apz false ?_|refine Akz false ?_);simp (disch:=omega) only [push_cast,seval,h1,h2,h3',h4,set5,tak5,Cvz,Abz,Aaz])
 | ((first|((first|refine call0D (BCall.ofP (ivL_ok _ _ ?_ ?_)) ?_|refine qcall0D (BCall.ofP (ivL_ok _ _ ?_ ?_)) ⟨_,_,rfl,rfl⟩ ?_);(iterate 2 (exact sd));rintro _ _ ⟨rfl,rfl⟩)|((first|refine call0D (BCall.ofP (unused_ok)) ?_|refine qcall0D (BCall.ofP (unused_ok)) ⟨_,_,rfl,rfl⟩ ?_);rintro _ _ ⟨rfl,rfl⟩)|(refine call0D (BCall.ofP (agreed_ok _ _ _ _ ?_ ?_ ?_)) ?_;(iterate 3 (exact sd));rintro _ _ ⟨⟨g,hg5,rfl⟩,rfl⟩))<;>(try simp (disch:=omega) only [push_cast,seval,h1,h2,h3',h4,set5,tak5,Cvz,Abz,Aaz]))
 | ((first | refine Ajz ⟨.inr rfl,_,rfl,?_⟩ | refine Ajz ⟨.inr rfl,_,Bcz rfl rfl (by assumption) rfl,?_⟩); (try simp (disch := omega) only [push_cast,seval,h1,h2,h3',h4,set5,tak5,Cvz,Abz,Aaz]))))
          all_goals exact ⟨g,hg5,rfl⟩
      · have h3':¬ (ls.length:Int)=ts.length:=by omega
        have hno:=exP_no (ts:=ts) (ls:=ls) (out:=out) (by simp [h3])
        rw [hno]
        (repeat' (first
 | (first|refine Amz ?_|refine Agz ?_)
 | ((first|refine Anz ?_|refine Afz ?_|refine Ahz ?_|refine Aiz ?_);simp (disch:=omega) only [push_cast,seval,l51r0,l51r1,l51r2,l51r3,h1,h2,h3',s0,l0,Abz,Aaz])
 | ((first|refine Acz ?_ ?_|refine Aez ?_ ?_|refine Adz ?_ ?_)<;>intro h<;>(try simp only [h])<;>(try simp only [bitvec_to_nat] at h)<;>(try simp only [h])<;>(first|(exfalso;omega)|(exfalso;simp_all;done)|(simp (disch:=omega) only [push_cast,seval,h1,h2,h3',s0,l0,Abz,Aaz])|skip))
 | ((first|refine Apz false ?_|refine Akz false ?_);simp (disch:=omega) only [push_cast,seval,h1,h2,h3',s0,l0,Abz,Aaz])
 | ((first|((first|refine call0D (BCall.ofP (ivL_ok _ _ ?_ ?_)) ?_|refine qcall0D (BCall.ofP (ivL_ok _ _ ?_ ?_)) ⟨_,_,rfl,rfl⟩ ?_);(iterate 2 (exact sd));rintro _ _ ⟨rfl,rfl⟩)|((first|refine call0D (BCall.ofP (unused_ok)) ?_|refine qcall0D (BCall.ofP (unused_ok)) ⟨_,_,rfl,rfl⟩ ?_);rintro _ _ ⟨rfl,rfl⟩)|(refine call0D (BCall.ofP (agreed_ok _ _ _ _ ?_ ?_ ?_)) ?_;(iterate 3 (exact sd));rintro _ _ ⟨⟨g,hg5,rfl⟩,rfl⟩))<;>(try simp (disch:=omega) only [push_cast,seval,h1,h2,h3',s0,l0,Abz,Aaz]))
 | ((first|refine Ajz ⟨.inr rfl,_,rfl,?_⟩|refine Ajz ⟨.inr rfl,_,Bcz rfl rfl (by assumption) rfl,?_⟩);(try simp (disch:=omega) only [push_cast,seval,h1,h2,h3',s0,l0,Abz,Aaz]))))
        all_goals exact ⟨ext0,rfl,rfl⟩
theorem extentsOfN_ok (ts:List Tn) (ls:List (List Int)) (n m:Nat) (hn:ts.length=n) (hm:ls.length=m) (hb:n ≤ 1099511627776 ∧ m ≤ 1099511627776 ∧ (∀ t ∈ ts,t.1.length ≤ 1099511627776 ∧ t.2.length ≤ 1099511627776) ∧ ∀ l ∈ ls,l.length ≤ 1099511627776) :
    PCall Try.prog 51 [.rows false (TL false ts) n,.rows false (LL false ls) m,.rows false [] 0] (fun r=>∃ g:List Int,((exP ts ls []).getD g).length=5 ∧ r=.tup [.agg (IL ((exP ts ls []).getD g)),.bool (exP ts ls []).isSome]) :=
  Ckz ts ls [] n m 0 hn hm rfl ⟨hb.1,hb.2.1,by omega,hb.2.2.1,hb.2.2.2⟩


set_option maxHeartbeats 16000000 in
theorem D5z (ls:List (List Int)) (n:Nat) (hn:ls.length=n) (hb:n ≤ 1099511627776 ∧ (∀ l ∈ ls,l.length ≤ 1099511627776) ∧ ∀ l ∈ ls,∀ x ∈ l,0 ≤ x ∧ x ≤ 4):BCall Try.prog 59 [.rows false (LL false ls) n] [] (OI (lbS ls.flatten)):=by
  subst hn
  obtain ⟨hb0,hb1,hb2⟩:=hb
  have hll:=A3z false ls
  refine A6z (pins:=[]) (pin:=0) l59_eq rfl rfl rfl ?_
  (repeat' (first
 | (first|refine Amz ?_|refine Agz ?_)
 | ((first|refine Anz ?_|refine Afz ?_|refine Ahz ?_|refine Aiz ?_);simp (disch:=omega) only [push_cast,seval,l59r0,l59r1,l59r2,l59r3,l59r4,l59r5,l59r6,l59r7,l59r8,l59r9,l59r10,l59r11,l59r12,l59r13,l59r14,l59r15,l59r16,l59r17,l59r18,Aaz])
 | ((first|refine Acz ?_ ?_|refine Aez ?_ ?_|refine Adz ?_ ?_)<;>intro h<;>(try simp only [h])<;>(try simp only [bitvec_to_nat] at h)<;>(try simp only [h])<;>(first|(exfalso;omega)|(exfalso;simp_all;done)|(simp (disch:=omega) only [push_cast,seval,Aaz])|skip))
 | ((first|(refine Bgz (by kernel_rfl) (by (simp (disch:=omega) only [push_cast,seval,Aaz])<;>rfl) ?_)|(refine A4z (t:=24) (sz:=1) (zs:=[.int .i64 0]) (by kernel_rfl) (by (simp (disch:=omega) only [push_cast,seval,Aaz])<;>rfl) (by (simp (disch:=omega) only [push_cast,seval,Aaz])<;>rfl) (by first|assumption|omega|(constructor<;>omega)) (by first|((simp (disch:=omega) only [push_cast,seval,Aaz]);done)|((simp (disch:=omega) only [push_cast,seval,Aaz]);exact ⟨rfl,by omega⟩)) ?_)|(refine A4z (t:=0) (sz:=2) (zs:=[.int .i64 0,.int .i64 0]) (by kernel_rfl) (by (simp (disch:=omega) only [push_cast,seval,Aaz])<;>rfl) (by (simp (disch:=omega) only [push_cast,seval,Aaz])<;>rfl) (by first|assumption|omega|(constructor<;>omega)) (by first|((simp (disch:=omega) only [push_cast,seval,Aaz]);done)|((simp (disch:=omega) only [push_cast,seval,Aaz]);exact ⟨rfl,by omega⟩)) ?_)|(refine Btz (len:=5) (by kernel_rfl) (by (simp (disch:=omega) only [push_cast,seval,Aaz])<;>rfl) (by (simp (disch:=omega) only [push_cast,seval,Aaz])<;>rfl) (by first|assumption|omega|(constructor<;>omega)) (by first|rfl|((simp (disch:=omega) only [push_cast,seval,Aaz]);rfl)) ?_))<;>(try simp (disch:=omega) only [push_cast,seval,Aaz]))
 | (refine Ajz ⟨.inr rfl,[576],[],_,by decide,rfl,?_⟩;(try simp (disch:=omega) only [push_cast,seval,↓Aqz,↓Aoz,↓List.map_cons,↓List.map_nil,Aaz]))))
  have hm0:(mkL []).map AV.bool=[AV.bool false,AV.bool false,AV.bool false,AV.bool false,AV.bool false]:=mkL_nil
  refine Ayz (fun i:Nat=>mkS [(2,.val (.slice none 0 0)),(3,.ref 48 5 0),(11,.rows false (LL false ls) ls.length),(12,.int .i64 ls.length),(13,.int .i64 i)] [(48,(mkL (ls.take i).flatten).map AV.bool)]) (fun i=>i ≤ ls.length) (fun i=>ls.length - i) 0 (Nat.zero_le _) ?_ ?_
  · (refine Sub.of_lists ?_ ?_ ?_ ?_ ?_<;>simp [Vw.mkS,Vw.lk,Vw.hk,AV.inn,innL,Arz,Alz,Asz,-List.map_set,-List.getD_eq_getElem?_getD,Aaz,hm0])
  · intro i hi
    have hml:=Gvz (ls.take i).flatten
    by_cases hlt:i < ls.length
    · obtain ⟨l,hl⟩:=Boz hlt
      have hbl:=hb1 _ (List.mem_of_getElem? hl)
      have hlx:=hb2 _ (List.mem_of_getElem? hl)
      have hd2:=Bnz false ls i hl
      have hil2:i + 1 ≤ ls.length:=by omega
      have hfl:(ls.take (i + 1)).flatten=(ls.take i).flatten ++ l:=by rw [List.take_add_one,hl];simp
      (repeat' (first
 | (first|refine Amz ?_|refine Agz ?_)
 | ((first|refine Anz ?_|refine Afz ?_|refine Ahz ?_|refine Aiz ?_);simp (disch:=omega) only [push_cast,seval,l59r0,l59r1,l59r2,l59r3,l59r4,l59r5,l59r6,l59r7,l59r8,l59r9,l59r10,l59r11,l59r12,l59r13,l59r14,l59r15,l59r16,l59r17,l59r18,hd2,hll,hil2,Aaz])
 | ((first|refine Acz ?_ ?_|refine Aez ?_ ?_|refine Adz ?_ ?_)<;>intro h<;>(try simp only [h])<;>(try simp only [bitvec_to_nat] at h)<;>(try simp only [h])<;>(first|(exfalso;omega)|(exfalso;simp_all;done)|(simp (disch:=omega) only [push_cast,seval,hd2,hll,hil2,Aaz])|skip))
 | ((first|(refine Bgz (by kernel_rfl) (by (simp (disch:=omega) only [push_cast,seval,hd2,hll,hil2,Aaz])<;>rfl) ?_)|(refine A4z (t:=24) (sz:=1) (zs:=[.int .i64 0]) (by kernel_rfl) (by (simp (disch:=omega) only [push_cast,seval,hd2,hll,hil2,Aaz])<;>rfl) (by (simp (disch:=omega) only [push_cast,seval,hd2,hll,hil2,Aaz])<;>rfl) (by first|assumption|omega|(constructor<;>omega)) (by first|((simp (disch:=omega) only [push_cast,seval,hd2,hll,hil2,Aaz]);done)|((simp (disch:=omega) only [push_cast,seval,hd2,hll,hil2,Aaz]);exact ⟨rfl,by omega⟩)) ?_)|(refine A4z (t:=0) (sz:=2) (zs:=[.int .i64 0,.int .i64 0]) (by kernel_rfl) (by (simp (disch:=omega) only [push_cast,seval,hd2,hll,hil2,Aaz])<;>rfl) (by (simp (disch:=omega) only [push_cast,seval,hd2,hll,hil2,Aaz])<;>rfl) (by first|assumption|omega|(constructor<;>omega)) (by first|((simp (disch:=omega) only [push_cast,seval,hd2,hll,hil2,Aaz]);done)|((simp (disch:=omega) only [push_cast,seval,hd2,hll,hil2,Aaz]);exact ⟨rfl,by omega⟩)) ?_)|(refine Btz (len:=5) (by kernel_rfl) (by (simp (disch:=omega) only [push_cast,seval,hd2,hll,hil2,Aaz])<;>rfl) (by (simp (disch:=omega) only [push_cast,seval,hd2,hll,hil2,Aaz])<;>rfl) (by first|assumption|omega|(constructor<;>omega)) (by first|rfl|((simp (disch:=omega) only [push_cast,seval,hd2,hll,hil2,Aaz]);rfl)) ?_))<;>(try simp (disch:=omega) only [push_cast,seval,hd2,hll,hil2,Aaz]))
 | (refine Ajz ⟨.inr rfl,[576],[],_,by decide,rfl,?_⟩;(try simp (disch:=omega) only [push_cast,seval,↓Aqz,↓Aoz,↓List.map_cons,↓List.map_nil,hd2,hll,hil2,Aaz]))))
      refine Ayz (fun j:Nat=>mkS [(2,.val (.slice none 0 0)),(3,.ref 48 5 0),(11,.rows false (LL false ls) ls.length),(12,.int .i64 ls.length),(13,.int .i64 i),(17,RI l),(18,.int .i64 l.length),(19,.int .i64 j)] [(48,(mkL ((ls.take i).flatten ++ l.take j)).map AV.bool)]) (fun j=>j ≤ l.length) (fun j=>l.length - j) 0 (Nat.zero_le _) ?_ ?_
      · (refine Sub.of_lists ?_ ?_ ?_ ?_ ?_<;>simp [Vw.mkS,Vw.lk,Vw.hk,AV.inn,innL,Arz,Alz,Asz,-List.map_set,-List.getD_eq_getElem?_getD,Aaz,B4z])
      · intro j hj
        have hml2:=Gvz ((ls.take i).flatten ++ l.take j)
        by_cases hjl:j < l.length
        · have hk:=hlx _ (C2z (xs:=l) hjl)
          obtain ⟨c,hc⟩:∃ c:Nat,l.getD j 0=c:=⟨(l.getD j 0).toNat,by omega⟩
          have hc5:c < 5:=by omega
          have hs:=mkL_set (L:=(ls.take i).flatten ++ l.take j) (c:=c) (by omega)
          rw [Int.toNat_natCast,List.append_assoc,← hc,← B8z l j hjl] at hs
          (repeat' (first
 | (first|refine Amz ?_|refine Agz ?_)
 | ((first|refine Anz ?_|refine Afz ?_|refine Ahz ?_|refine Aiz ?_);simp (disch:=omega) only [push_cast,seval,l59r0,l59r1,l59r2,l59r3,l59r4,l59r5,l59r6,l59r7,l59r8,l59r9,l59r10,l59r11,l59r12,l59r13,l59r14,l59r15,l59r16,l59r17,l59r18,hd2,hll,hil2,hc,hml2,List.length_map,Aaz])
 | ((first|refine Acz ?_ ?_|refine Aez ?_ ?_|refine Adz ?_ ?_)<;>intro h<;>(try simp only [h])<;>(try simp only [bitvec_to_nat] at h)<;>(try simp only [h])<;>(first|(exfalso;omega)|(exfalso;simp_all;done)|(simp (disch:=omega) only [push_cast,seval,hd2,hll,hil2,hc,hml2,List.length_map,Aaz])|skip))
 | ((first|(refine Bgz (by kernel_rfl) (by (simp (disch:=omega) only [push_cast,seval,hd2,hll,hil2,hc,hml2,List.length_map,Aaz])<;>rfl) ?_)|(refine A4z (t:=24) (sz:=1) (zs:=[.int .i64 0]) (by kernel_rfl) (by (simp (disch:=omega) only [push_cast,seval,hd2,hll,hil2,hc,hml2,List.length_map,Aaz])<;>rfl) (by (simp (disch:=omega) only [push_cast,seval,hd2,hll,hil2,hc,hml2,List.length_map,Aaz])<;>rfl) (by first|assumption|omega|(constructor<;>omega)) (by first|((simp (disch:=omega) only [push_cast,seval,hd2,hll,hil2,hc,hml2,List.length_map,Aaz]);done)|((simp (disch:=omega) only [push_cast,seval,hd2,hll,hil2,hc,hml2,List.length_map,Aaz]);exact ⟨rfl,by omega⟩)) ?_)|(refine A4z (t:=0) (sz:=2) (zs:=[.int .i64 0,.int .i64 0]) (by kernel_rfl) (by (simp (disch:=omega) only [push_cast,seval,hd2,hll,hil2,hc,hml2,List.length_map,Aaz])<;>rfl) (by (simp (disch:=omega) only [push_cast,seval,hd2,hll,hil2,hc,hml2,List.length_map,Aaz])<;>rfl) (by first|assumption|omega|(constructor<;>omega)) (by first|((simp (disch:=omega) only [push_cast,seval,hd2,hll,hil2,hc,hml2,List.length_map,Aaz]);done)|((simp (disch:=omega) only [push_cast,seval,hd2,hll,hil2,hc,hml2,List.length_map,Aaz]);exact ⟨rfl,by omega⟩)) ?_)|(refine Btz (len:=5) (by kernel_rfl) (by (simp (disch:=omega) only [push_cast,seval,hd2,hll,hil2,hc,hml2,List.length_map,Aaz])<;>rfl) (by (simp (disch:=omega) only [push_cast,seval,hd2,hll,hil2,hc,hml2,List.length_map,Aaz])<;>rfl) (by first|assumption|omega|(constructor<;>omega)) (by first|rfl|((simp (disch:=omega) only [push_cast,seval,hd2,hll,hil2,hc,hml2,List.length_map,Aaz]);rfl)) ?_))<;>(try simp (disch:=omega) only [push_cast,seval,hd2,hll,hil2,hc,hml2,List.length_map,Aaz]))
 | (refine Ajz ⟨.inr rfl,[576],[],_,by decide,rfl,?_⟩; (try simp (disch := omega) only [push_cast,seval,↓Aqz,↓Aoz,↓List.map_cons,↓List.map_nil,hd2,hll,hil2,hc,hml2,List.length_map,Aaz]))))
          refine ⟨j + 1,by omega,by omega,?_⟩
          have hs2:=congrArg (List.map AV.bool) hs
          rw [List.map_set] at hs2
          (refine Sub.of_lists ?_ ?_ ?_ ?_ ?_<;>simp [Vw.mkS,Vw.lk,Vw.hk,AV.inn,innL,Arz,Alz,Asz,-List.map_set,-List.getD_eq_getElem?_getD,hs2,Aaz,B4z])
        · have ej:j=l.length:=by omega
          have e2:(ls.take i).flatten ++ l.take j=(ls.take (i + 1)).flatten:=by rw [hfl,List.take_of_length_le (l:=l) (by omega)]
          rw [e2] at hml2 ⊢
          have hjx:¬ (j:Int) < l.length:=by omega
          (repeat' (first
 | (first|refine Amz ?_|refine Agz ?_)
 | ((first|refine Anz ?_|refine Afz ?_|refine Ahz ?_|refine Aiz ?_);simp (disch:=omega) only [push_cast,seval,l59r0,l59r1,l59r2,l59r3,l59r4,l59r5,l59r6,l59r7,l59r8,l59r9,l59r10,l59r11,l59r12,l59r13,l59r14,l59r15,l59r16,l59r17,l59r18,hd2,hll,hil2,hml2,List.length_map,Aaz])
 | ((first|refine Acz ?_ ?_|refine Aez ?_ ?_|refine Adz ?_ ?_)<;>intro h<;>(try simp only [h])<;>(try simp only [bitvec_to_nat] at h)<;>(try simp only [h])<;>(first|(exfalso;omega)|(exfalso;simp_all;done)|(simp (disch:=omega) only [push_cast,seval,hd2,hll,hil2,hml2,List.length_map,Aaz])|skip))
 | ((first|(refine Bgz (by kernel_rfl) (by (simp (disch:=omega) only [push_cast,seval,hd2,hll,hil2,hml2,List.length_map,Aaz])<;>rfl) ?_)|(refine A4z (t:=24) (sz:=1) (zs:=[.int .i64 0]) (by kernel_rfl) (by (simp (disch:=omega) only [push_cast,seval,hd2,hll,hil2,hml2,List.length_map,Aaz])<;>rfl) (by (simp (disch:=omega) only [push_cast,seval,hd2,hll,hil2,hml2,List.length_map,Aaz])<;>rfl) (by first|assumption|omega|(constructor<;>omega)) (by first|((simp (disch:=omega) only [push_cast,seval,hd2,hll,hil2,hml2,List.length_map,Aaz]);done)|((simp (disch:=omega) only [push_cast,seval,hd2,hll,hil2,hml2,List.length_map,Aaz]);exact ⟨rfl,by omega⟩)) ?_)|(refine A4z (t:=0) (sz:=2) (zs:=[.int .i64 0,.int .i64 0]) (by kernel_rfl) (by (simp (disch:=omega) only [push_cast,seval,hd2,hll,hil2,hml2,List.length_map,Aaz])<;>rfl) (by (simp (disch:=omega) only [push_cast,seval,hd2,hll,hil2,hml2,List.length_map,Aaz])<;>rfl) (by first|assumption|omega|(constructor<;>omega)) (by first|((simp (disch:=omega) only [push_cast,seval,hd2,hll,hil2,hml2,List.length_map,Aaz]);done)|((simp (disch:=omega) only [push_cast,seval,hd2,hll,hil2,hml2,List.length_map,Aaz]);exact ⟨rfl,by omega⟩)) ?_)|(refine Btz (len:=5) (by kernel_rfl) (by (simp (disch:=omega) only [push_cast,seval,hd2,hll,hil2,hml2,List.length_map,Aaz])<;>rfl) (by (simp (disch:=omega) only [push_cast,seval,hd2,hll,hil2,hml2,List.length_map,Aaz])<;>rfl) (by first|assumption|omega|(constructor<;>omega)) (by first|rfl|((simp (disch:=omega) only [push_cast,seval,hd2,hll,hil2,hml2,List.length_map,Aaz]);rfl)) ?_))<;>(try simp (disch:=omega) only [push_cast,seval,hd2,hll,hil2,hml2,List.length_map,Aaz]))
 | (refine Ajz ⟨.inr rfl,[576],[],_,by decide,rfl,?_⟩; (try simp (disch := omega) only [push_cast,seval,↓Aqz,↓Aoz,↓List.map_cons,↓List.map_nil,hd2,hll,hil2,hml2,List.length_map,Aaz]))))
          refine ⟨i + 1,by omega,by omega,?_⟩
          (refine Sub.of_lists ?_ ?_ ?_ ?_ ?_<;>simp [Vw.mkS,Vw.lk,Vw.hk,AV.inn,innL,Arz,Alz,Asz,-List.map_set,-List.getD_eq_getElem?_getD,Aaz,B4z])
    · have e2:ls.take i=ls:=List.take_of_length_le (by omega)
      rw [e2] at hml ⊢
      have hj5:((mkL ls.flatten).map AV.bool).take 5=(mkL ls.flatten).map AV.bool:=List.take_of_length_le (by simp [hml])
      generalize hM:ls.flatten=M at *
      (repeat' (first
 | (first|refine Amz ?_|refine Agz ?_)
 | ((first|refine Anz ?_|refine Afz ?_|refine Ahz ?_|refine Aiz ?_);simp (disch:=omega) only [push_cast,seval,l59r0,l59r1,l59r2,l59r3,l59r4,l59r5,l59r6,l59r7,l59r8,l59r9,l59r10,l59r11,l59r12,l59r13,l59r14,l59r15,l59r16,l59r17,l59r18,hml,hj5,List.length_map,Aaz])
 | ((first|refine Acz ?_ ?_|refine Aez ?_ ?_|refine Adz ?_ ?_)<;>intro h<;>(try simp only [h])<;>(try simp only [bitvec_to_nat] at h)<;>(try simp only [h])<;>(first|(exfalso;omega)|(exfalso;simp_all;done)|(simp (disch:=omega) only [push_cast,seval,hml,hj5,List.length_map,Aaz])|skip))
 | ((first|(refine Bgz (by kernel_rfl) (by (simp (disch:=omega) only [push_cast,seval,hml,hj5,List.length_map,Aaz])<;>rfl) ?_)|(refine A4z (t:=24) (sz:=1) (zs:=[.int .i64 0]) (by kernel_rfl) (by (simp (disch:=omega) only [push_cast,seval,hml,hj5,List.length_map,Aaz])<;>rfl) (by (simp (disch:=omega) only [push_cast,seval,hml,hj5,List.length_map,Aaz])<;>rfl) (by first|assumption|omega|(constructor<;>omega)) (by first|((simp (disch:=omega) only [push_cast,seval,hml,hj5,List.length_map,Aaz]);done)|((simp (disch:=omega) only [push_cast,seval,hml,hj5,List.length_map,Aaz]);exact ⟨rfl,by omega⟩)) ?_)|(refine A4z (t:=0) (sz:=2) (zs:=[.int .i64 0,.int .i64 0]) (by kernel_rfl) (by (simp (disch:=omega) only [push_cast,seval,hml,hj5,List.length_map,Aaz])<;>rfl) (by (simp (disch:=omega) only [push_cast,seval,hml,hj5,List.length_map,Aaz])<;>rfl) (by first|assumption|omega|(constructor<;>omega)) (by first|((simp (disch:=omega) only [push_cast,seval,hml,hj5,List.length_map,Aaz]);done)|((simp (disch:=omega) only [push_cast,seval,hml,hj5,List.length_map,Aaz]);exact ⟨rfl,by omega⟩)) ?_)|(refine Btz (len:=5) (by kernel_rfl) (by (simp (disch:=omega) only [push_cast,seval,hml,hj5,List.length_map,Aaz])<;>rfl) (by (simp (disch:=omega) only [push_cast,seval,hml,hj5,List.length_map,Aaz])<;>rfl) (by first|assumption|omega|(constructor<;>omega)) (by first|rfl|((simp (disch:=omega) only [push_cast,seval,hml,hj5,List.length_map,Aaz]);rfl)) ?_))<;>(try simp (disch:=omega) only [push_cast,seval,hml,hj5,List.length_map,Aaz]))
 | (refine Ajz ⟨.inr rfl,[576],[],_,by decide,rfl,?_⟩;(try simp (disch:=omega) only [push_cast,seval,↓Aqz,↓Aoz,↓List.map_cons,↓List.map_nil,hml,hj5,List.length_map,Aaz]))))
      refine Cjz (fun k:Nat=>mkS [(2,.val (.slice none 0 0)),(8,.own 576 (lbT M k).length 1),(27,.agg ((mkL M).map AV.bool)),(28,.int .i64 k)] [(576,IL (lbT M k))]) (fun k=>k ≤ 5) (fun k=>5 - k) 0 (Nat.zero_le _) ?_ ?_
      · refine SubW.adopt [8] 576 1 (by simp [Vw.hk]) (SubW.of ?_)
        simp only [adL,List.map_cons,List.map_nil,adA,List.contains_cons,List.contains_nil]
        (refine Sub.of_lists ?_ ?_ ?_ ?_ ?_<;>simp [Vw.mkS,Vw.lk,Vw.hk,AV.inn,innL,Arz,Alz,Asz,-List.map_set,-List.getD_eq_getElem?_getD,lbT_zero,B4z])
      · intro k hk
        have hkl:=lbT_len M k
        by_cases hk5:k < 5
        · have hg:=mkL_getD (L:=M) hk5
          by_cases hin:(k:Int) ∈ M
          · have hidx:((mkL M).map AV.bool)[k]?=some (.bool true):=by
              rw [List.getElem?_map]
              simp [mkL,hk5,hin]
            have e3:=lbT_yes hin
            (repeat' (first
 | (first|refine Amz ?_|refine Agz ?_)
 | ((first|refine Anz ?_|refine Afz ?_|refine Ahz ?_|refine Aiz ?_);simp (disch:=omega) only [push_cast,seval,l59r0,l59r1,l59r2,l59r3,l59r4,l59r5,l59r6,l59r7,l59r8,l59r9,l59r10,l59r11,l59r12,l59r13,l59r14,l59r15,l59r16,l59r17,l59r18,hidx,hml,List.length_map])
 | ((first|refine Acz ?_ ?_|refine Aez ?_ ?_|refine Adz ?_ ?_)<;>intro h<;>(try simp only [h])<;>(try simp only [bitvec_to_nat] at h)<;>(try simp only [h])<;>(first|(exfalso;omega)|(exfalso;simp_all;done)|(simp (disch:=omega) only [push_cast,seval,hidx,hml,List.length_map])|skip))
 | ((first|(refine Bgz (by kernel_rfl) (by (simp (disch:=omega) only [push_cast,seval,hidx,hml,List.length_map])<;>rfl) ?_)|(refine A4z (t:=24) (sz:=1) (zs:=[.int .i64 0]) (by kernel_rfl) (by (simp (disch:=omega) only [push_cast,seval,hidx,hml,List.length_map])<;>rfl) (by (simp (disch:=omega) only [push_cast,seval,hidx,hml,List.length_map])<;>rfl) (by first|assumption|omega|(constructor<;>omega)) (by first|((simp (disch:=omega) only [push_cast,seval,hidx,hml,List.length_map]);done)|((simp (disch:=omega) only [push_cast,seval,hidx,hml,List.length_map]);exact ⟨rfl,by omega⟩)) ?_)|(refine A4z (t:=0) (sz:=2) (zs:=[.int .i64 0,.int .i64 0]) (by kernel_rfl) (by (simp (disch:=omega) only [push_cast,seval,hidx,hml,List.length_map])<;>rfl) (by (simp (disch:=omega) only [push_cast,seval,hidx,hml,List.length_map])<;>rfl) (by first|assumption|omega|(constructor<;>omega)) (by first|((simp (disch:=omega) only [push_cast,seval,hidx,hml,List.length_map]);done)|((simp (disch:=omega) only [push_cast,seval,hidx,hml,List.length_map]);exact ⟨rfl,by omega⟩)) ?_)|(refine Btz (len:=5) (by kernel_rfl) (by (simp (disch:=omega) only [push_cast,seval,hidx,hml,List.length_map])<;>rfl) (by (simp (disch:=omega) only [push_cast,seval,hidx,hml,List.length_map])<;>rfl) (by first|assumption|omega|(constructor<;>omega)) (by first|rfl|((simp (disch:=omega) only [push_cast,seval,hidx,hml,List.length_map]);rfl)) ?_))<;>(try simp (disch:=omega) only [push_cast,seval,hidx,hml,List.length_map]))
 | (refine Ajz ⟨.inr rfl,[576],[],_,by decide,rfl,?_⟩; (try simp (disch := omega) only [push_cast,seval,↓Aqz,↓Aoz,↓List.map_cons,↓List.map_nil,hidx,hml,List.length_map]))))
            refine ⟨k + 1,by omega,by omega,SubW.of ?_⟩
            (refine Sub.of_lists ?_ ?_ ?_ ?_ ?_<;>simp [Vw.mkS,Vw.lk,Vw.hk,AV.inn,innL,Arz,Alz,Asz,-List.map_set,-List.getD_eq_getElem?_getD,e3,B4z])
          · have hidx:((mkL M).map AV.bool)[k]?=some (.bool false):=by
              rw [List.getElem?_map]
              simp [mkL,hk5,hin]
            have e3:=lbT_no hin
            (repeat' (first
 | (first|refine Amz ?_|refine Agz ?_)
 | ((first|refine Anz ?_|refine Afz ?_|refine Ahz ?_|refine Aiz ?_);simp (disch:=omega) only [push_cast,seval,l59r0,l59r1,l59r2,l59r3,l59r4,l59r5,l59r6,l59r7,l59r8,l59r9,l59r10,l59r11,l59r12,l59r13,l59r14,l59r15,l59r16,l59r17,l59r18,hidx,hml,List.length_map])
 | ((first|refine Acz ?_ ?_|refine Aez ?_ ?_|refine Adz ?_ ?_)<;>intro h<;>(try simp only [h])<;>(try simp only [bitvec_to_nat] at h)<;>(try simp only [h])<;>(first|(exfalso;omega)|(exfalso;simp_all;done)|(simp (disch:=omega) only [push_cast,seval,hidx,hml,List.length_map])|skip))
 | ((first|(refine Bgz (by kernel_rfl) (by (simp (disch:=omega) only [push_cast,seval,hidx,hml,List.length_map])<;>rfl) ?_)|(refine A4z (t:=24) (sz:=1) (zs:=[.int .i64 0]) (by kernel_rfl) (by (simp (disch:=omega) only [push_cast,seval,hidx,hml,List.length_map])<;>rfl) (by (simp (disch:=omega) only [push_cast,seval,hidx,hml,List.length_map])<;>rfl) (by first|assumption|omega|(constructor<;>omega)) (by first|((simp (disch:=omega) only [push_cast,seval,hidx,hml,List.length_map]);done)|((simp (disch:=omega) only [push_cast,seval,hidx,hml,List.length_map]);exact ⟨rfl,by omega⟩)) ?_)|(refine A4z (t:=0) (sz:=2) (zs:=[.int .i64 0,.int .i64 0]) (by kernel_rfl) (by (simp (disch:=omega) only [push_cast,seval,hidx,hml,List.length_map])<;>rfl) (by (simp (disch:=omega) only [push_cast,seval,hidx,hml,List.length_map])<;>rfl) (by first|assumption|omega|(constructor<;>omega)) (by first|((simp (disch:=omega) only [push_cast,seval,hidx,hml,List.length_map]);done)|((simp (disch:=omega) only [push_cast,seval,hidx,hml,List.length_map]);exact ⟨rfl,by omega⟩)) ?_)|(refine Btz (len:=5) (by kernel_rfl) (by (simp (disch:=omega) only [push_cast,seval,hidx,hml,List.length_map])<;>rfl) (by (simp (disch:=omega) only [push_cast,seval,hidx,hml,List.length_map])<;>rfl) (by first|assumption|omega|(constructor<;>omega)) (by first|rfl|((simp (disch:=omega) only [push_cast,seval,hidx,hml,List.length_map]);rfl)) ?_))<;>(try simp (disch:=omega) only [push_cast,seval,hidx,hml,List.length_map]))
 | (refine Ajz ⟨.inr rfl,[576],[],_,by decide,rfl,?_⟩; (try simp (disch := omega) only [push_cast,seval,↓Aqz,↓Aoz,↓List.map_cons,↓List.map_nil,hidx,hml,List.length_map]))))
            refine ⟨k + 1,by omega,by omega,SubW.of ?_⟩
            (refine Sub.of_lists ?_ ?_ ?_ ?_ ?_<;>simp [Vw.mkS,Vw.lk,Vw.hk,AV.inn,innL,Arz,Alz,Asz,-List.map_set,-List.getD_eq_getElem?_getD,e3,B4z])
        · have e:k=5:=by omega
          subst e
          (repeat' (first
 | (first|refine Amz ?_|refine Agz ?_)
 | ((first|refine Anz ?_|refine Afz ?_|refine Ahz ?_|refine Aiz ?_);simp (disch:=omega) only [push_cast,seval,l59r0,l59r1,l59r2,l59r3,l59r4,l59r5,l59r6,l59r7,l59r8,l59r9,l59r10,l59r11,l59r12,l59r13,l59r14,l59r15,l59r16,l59r17,l59r18,hml,List.length_map])
 | ((first|refine Acz ?_ ?_|refine Aez ?_ ?_|refine Adz ?_ ?_)<;>intro h<;>(try simp only [h])<;>(try simp only [bitvec_to_nat] at h)<;>(try simp only [h])<;>(first|(exfalso;omega)|(exfalso;simp_all;done)|(simp (disch:=omega) only [push_cast,seval,hml,List.length_map])|skip))
 | ((first|(refine Bgz (by kernel_rfl) (by (simp (disch:=omega) only [push_cast,seval,hml,List.length_map])<;>rfl) ?_)|(refine A4z (t:=24) (sz:=1) (zs:=[.int .i64 0]) (by kernel_rfl) (by (simp (disch:=omega) only [push_cast,seval,hml,List.length_map])<;>rfl) (by (simp (disch:=omega) only [push_cast,seval,hml,List.length_map])<;>rfl) (by first|assumption|omega|(constructor<;>omega)) (by first|((simp (disch:=omega) only [push_cast,seval,hml,List.length_map]);done)|((simp (disch:=omega) only [push_cast,seval,hml,List.length_map]);exact ⟨rfl,by omega⟩)) ?_)|(refine A4z (t:=0) (sz:=2) (zs:=[.int .i64 0,.int .i64 0]) (by kernel_rfl) (by (simp (disch:=omega) only [push_cast,seval,hml,List.length_map])<;>rfl) (by (simp (disch:=omega) only [push_cast,seval,hml,List.length_map])<;>rfl) (by first|assumption|omega|(constructor<;>omega)) (by first|((simp (disch:=omega) only [push_cast,seval,hml,List.length_map]);done)|((simp (disch:=omega) only [push_cast,seval,hml,List.length_map]);exact ⟨rfl,by omega⟩)) ?_)|(refine Btz (len:=5) (by kernel_rfl) (by (simp (disch:=omega) only [push_cast,seval,hml,List.length_map])<;>rfl) (by (simp (disch:=omega) only [push_cast,seval,hml,List.length_map])<;>rfl) (by first|assumption|omega|(constructor<;>omega)) (by first|rfl|((simp (disch:=omega) only [push_cast,seval,hml,List.length_map]);rfl)) ?_))<;>(try simp (disch:=omega) only [push_cast,seval,hml,List.length_map]))
 | (refine Ajz ⟨.inr rfl,[576],[],_,by decide,rfl,?_⟩; (try simp (disch := omega) only [push_cast,seval,↓Aqz,↓Aoz,↓List.map_cons,↓List.map_nil,hml,List.length_map]))))
          all_goals (first|exact ⟨rfl,rfl⟩|skip)

end Go.Proofs.Ytpicoecbbiiaoaa
