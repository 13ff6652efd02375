/- Texts of this verifier. -/
import Derived.Test.YtbplegbgofnolaaCB9
import Derived.Test.YtbplegbgofnolaaCM1
import Derived.Test.YtbplegbgofnolaaCW3
set_option linter.unusedSimpArgs false
set_option linter.unusedVariables false
set_option maxRecDepth 4000
set_option maxHeartbeats 4000000
namespace Go.Proofs.Ytbplegbgofnolaa
open VwM Vw Go

/-- The product of two matrices,the trace of one: contractions with labels that are written down. -/
abbrev mmT (a b:Tn):Option Tn:=ctT [a,b] [[0,1],[1,2]] [0,2]
abbrev trT (t:Tn):Option Tn:=ctT [t] [[0,0]] []
abbrev bTn (t:Tn):Prop:=t.1.length ≤ 1099511627776 ∧ t.2.length ≤ 1099511627776
def OTr (o:Option Tn):AV:=.tup [.int .i64 ((t0 o).2.getD 0 0),.bool o.isSome]


end Go.Proofs.Ytbplegbgofnolaa
set_option linter.unusedSimpArgs false
set_option linter.unusedVariables false
set_option maxRecDepth 4000
set_option maxHeartbeats 4000000
namespace Go.Proofs.Ytbplegbgofnolaa
open VwM Vw Go

def sdT (t:Tn) (d:Int):Option Tn:=if vT t=true ∧ 0 ≤ d ∧ d < t.1.length then ctT [t] [nums 0 1 t.1.length] (wo (nums 0 1 t.1.length) d.toNat) else none
theorem wiL_wo:∀ n:Nat,n < 5 → ∀ k:Nat,k < n → wiL (nums 0 1 n) [(k:Int)]=wo (nums 0 1 n) k:=by decide
theorem numU_v:∀ n:Nat,n < 5 → vR (pS 0 n) (pE 0 1 n) (pC 1 n)=true ∧ nums (pS 0 n) (pC 1 n) (cntN (pS 0 n) (pE 0 1 n) (pC 1 n))=nums 0 1 n:=by decide
theorem nums_len (a c:Int) (n:Nat):(nums a c n).length=n:=by simp [nums]


theorem inumU_ok (n:Nat) (hb:n ≤ 4):BCall Try.prog 65 [rng (pS 0 n) (pE 0 1 n) (pC 1 n)] [] (OI (nums 0 1 n)):=by
  have h:=numU_v n (by omega)
  have h2:=inumbers_ok _ _ _ h.1
  rw [h.2] at h2
  exact h2


theorem iCon1_ok (a1 a2 l out:List Int) (n1 n2 m q:Nat) (hn:(a1.length=n1 ∧ a2.length=n2) ∧ l.length=m ∧ out.length=q) (hb:(n1 ≤ 1099511627776 ∧ n2 ≤ 1099511627776) ∧ m ≤ 1099511627776 ∧ q ≤ 1048576) :
    BCall Try.prog 17 [.rows false [.rows false (IL a1) n1,.rows false (IL a2) n2] 1,.rows false [.rows false (IL l) m] 1,.rows false (IL out) q] [] (OTn (ctT [(a1,a2)] [l] out)):=by
  obtain ⟨⟨rfl,rfl⟩,rfl,rfl⟩:=hn
  exact iCon_ok [(a1,a2)] [l] out 1 1 _ rfl rfl rfl ⟨by omega,by simp;omega,by simp;omega⟩


theorem iwo1_ok (xs:List Int) (n:Nat) (d:Int) (hn:xs.length=n) (hb:n ≤ 1099511627776):BCall Try.prog 67 [.rows false (IL xs) n,.rows false [.int .i64 d] 1] [] (OI (wiL xs [d])):=iwithout_ok xs [d] n 1 hn rfl ⟨hb,by omega⟩


set_option maxHeartbeats 16000000 in
theorem iSD_ok (a1 a2:List Int) (d:Int) (n1 n2:Nat) (h1:a1.length=n1) (h2:a2.length=n2) (hb:n1 ≤ 1099511627776 ∧ n2 ≤ 1099511627776) :
    BCall Try.prog 28 [.agg [.rows false (IL a1) n1,.rows false (IL a2) n2],.int .i64 d] [] (OTn (sdT (a1,a2) d)):=by
  subst h1 h2
  obtain ⟨hb1,hb2⟩:=hb
  refine A6z (pins:=[]) (pin:=0) l28_eq rfl rfl rfl ?_
  cases hv:vT (a1,a2) with
  | false =>
    have hno:sdT (a1,a2) d=none:=by unfold sdT;rw [if_neg (by rw [hv];simp)]
    rw [hno]
    (repeat' (first
 | (first|refine Alz ?_|refine Agz ?_)
 | ((first|refine Anz ?_|refine Asz (mid:=l28r4a) (post:=l28r4b) Awz (by decide) ?_|refine Afz ?_|refine Ahz ?_|refine Aiz ?_);simp (disch:=omega) only [push_cast,seval,l28r0,l28r1,l28r2,l28r3,l28r4a,l28r4b,l28r4,hv])
 | ((first|refine Acz ?_ ?_|refine Aez ?_ ?_|refine Adz ?_ ?_)<;>intro h<;>(try simp only [h])<;>(try simp only [bitvec_to_nat] at h)<;>(try simp only [h])<;>(first|(exfalso;omega)|(exfalso;simp_all;done)|(simp (disch:=omega) only [push_cast,seval,hv])|skip))
 | ((first|refine Aqz false ?_|refine qcallD_of false ?_);simp (disch:=omega) only [push_cast,seval,hv])
 | ((first|((first|refine call0D (BCall.ofP (ivT_ok _ _ _ _ ?_ ?_ ?_)) ?_|refine qcall0D (BCall.ofP (ivT_ok _ _ _ _ ?_ ?_ ?_)) ⟨_,_,rfl,rfl⟩ ?_);(iterate 3 (exact sd));rintro _ _ ⟨rfl,rfl⟩)|((first|refine call0D (BCall.ofP (upTo_ok _ _)) ?_|refine qcall0D (BCall.ofP (upTo_ok _ _)) ⟨_,_,rfl,rfl⟩ ?_);rintro _ _ ⟨rfl,rfl⟩)|((first|refine call0D (BCall.ofP (progression_ok _ _ _ ?_ ?_)) ?_|refine qcall0D (BCall.ofP (progression_ok _ _ _ ?_ ?_)) ⟨_,_,rfl,rfl⟩ ?_);(iterate 2 (exact sd));rintro _ _ ⟨rfl,rfl⟩)|((first|refine call0D (inumbers_ok _ _ _ ?_) ?_|refine qcall0D (inumbers_ok _ _ _ ?_) ⟨_,_,rfl,rfl⟩ ?_);(exact sd);rintro _ _ ⟨rfl,rfl⟩)|((first|refine call0D (inumU_ok _ ?_) ?_|refine qcall0D (inumU_ok _ ?_) ⟨_,_,rfl,rfl⟩ ?_);(exact sd);rintro _ _ ⟨rfl,rfl⟩)|((first|refine call0D (iwo1_ok _ _ _ ?_ ?_) ?_|refine qcall0D (iwo1_ok _ _ _ ?_ ?_) ⟨_,_,rfl,rfl⟩ ?_);(iterate 2 (exact sd));rintro _ _ ⟨rfl,rfl⟩)|((first|refine call0D (iCon1_ok _ _ _ _ _ _ _ _ ?_ ?_) ?_|refine qcall0D (iCon1_ok _ _ _ _ _ _ _ _ ?_ ?_) ⟨_,_,rfl,rfl⟩ ?_);(iterate 2 (exact sd));rintro _ _ ⟨rfl,rfl⟩))<;>(try simp (disch:=omega) only [push_cast,seval,hv]))
 | (refine Ajz ⟨.inr rfl,[16000,16016],[(16000,1),(16016,1)],_,by decide,rfl,?_⟩;(try simp (disch:=omega) only [push_cast,seval,↓Apz,↓Amz,↓List.map_cons,↓List.map_nil,hv]))))
    all_goals exact ⟨rfl,rfl⟩
  | true =>
    have h4:a1.length ≤ 4:=(Baz (C9z.1 hv).1).1.2
    by_cases hd:0 ≤ d ∧ d < a1.length
    · obtain ⟨k,rfl⟩:∃ k:Nat,d=k:=⟨d.toNat,by omega⟩
      have hk:k < a1.length:=by omega
      have hyes:sdT (a1,a2) k=ctT [(a1,a2)] [nums 0 1 a1.length] (wo (nums 0 1 a1.length) k):=by unfold sdT;rw [if_pos ⟨hv,hd⟩,Int.toNat_natCast]
      rw [hyes,← wiL_wo _ (by omega) k hk]
      have hN:=nums_len 0 1 a1.length
      have hW:(wiL (nums 0 1 a1.length) [(k:Int)]).length ≤ 4:=by rw [wiL_wo _ (by omega) k hk];simp [wo];omega
      generalize hNN:nums 0 1 a1.length=N at *
      generalize hWW:wiL N [(k:Int)]=W at *
      have hP:(1:Int) ≤ a1.length → -1000000 ≤ ((a1.length:Int) - 1) * 1 ∧ ((a1.length:Int) - 1) * 1 ≤ 1000000:=fun _=>by omega
      have q1:(-100000:Int) ≤ 0 ∧ (0:Int) ≤ 100000 ∧ (-100000:Int) ≤ 1 ∧ (1:Int) ≤ 100000 ∧ (-1000:Int) ≤ a1.length ∧ (a1.length:Int) ≤ 1000:=by omega
      (repeat' (first
 | (first|refine Alz ?_|refine Agz ?_)
 | ((first|refine Anz ?_|refine Bgz (mid:=l28r4a) (post:=l28r4b) [] Awz (by decide) ?_|refine Afz ?_|refine Ahz ?_|refine Aiz ?_);simp (disch:=omega) only [push_cast,seval,l28r0,l28r1,l28r2,l28r3,l28r4a,l28r4b,l28r4,hv,hNN,hWW,hN])
 | ((first|refine Acz ?_ ?_|refine Aez ?_ ?_|refine Adz ?_ ?_)<;>intro h<;>(try simp only [h])<;>(try simp only [bitvec_to_nat] at h)<;>(try simp only [h])<;>(first|(exfalso;omega)|(exfalso;simp_all;done)|(simp (disch:=omega) only [push_cast,seval,hv,hNN,hWW,hN])|skip))
 | ((first|refine Aqz false ?_|refine qcallD_of false ?_);simp (disch:=omega) only [push_cast,seval,hv,hNN,hWW,hN])
 | ((first|((first|refine call0D (BCall.ofP (ivT_ok _ _ _ _ ?_ ?_ ?_)) ?_|refine qcall0D (BCall.ofP (ivT_ok _ _ _ _ ?_ ?_ ?_)) ⟨_,_,rfl,rfl⟩ ?_);(iterate 3 (exact sd));rintro _ _ ⟨rfl,rfl⟩)|((first|refine call0D (BCall.ofP (upTo_ok _ _)) ?_|refine qcall0D (BCall.ofP (upTo_ok _ _)) ⟨_,_,rfl,rfl⟩ ?_);rintro _ _ ⟨rfl,rfl⟩)|((first|refine call0D (BCall.ofP (progression_ok _ _ _ ?_ ?_)) ?_|refine qcall0D (BCall.ofP (progression_ok _ _ _ ?_ ?_)) ⟨_,_,rfl,rfl⟩ ?_);(iterate 2 (exact sd));rintro _ _ ⟨rfl,rfl⟩)|((first|refine call0D (inumbers_ok _ _ _ ?_) ?_|refine qcall0D (inumbers_ok _ _ _ ?_) ⟨_,_,rfl,rfl⟩ ?_);(exact sd);rintro _ _ ⟨rfl,rfl⟩)|((first|refine call0D (inumU_ok _ ?_) ?_|refine qcall0D (inumU_ok _ ?_) ⟨_,_,rfl,rfl⟩ ?_);(exact sd);rintro _ _ ⟨rfl,rfl⟩)|((first|refine call0D (iwo1_ok _ _ _ ?_ ?_) ?_|refine qcall0D (BCall.ofP (plainI (iwo1_ok _ _ _ ?_ ?_))) ⟨_,_,rfl,rfl⟩ ?_);(iterate 2 (exact sd));rintro _ _ ⟨rfl,rfl⟩)|((first|refine call0D (iCon1_ok _ _ _ _ _ _ _ _ ?_ ?_) ?_|refine qcall0D (iCon1_ok _ _ _ _ _ _ _ _ ?_ ?_) ⟨_,_,rfl,rfl⟩ ?_);(iterate 2 (exact sd));rintro _ _ ⟨rfl,rfl⟩))<;>(try simp (disch:=omega) only [push_cast,seval,hv,hNN,hWW,hN]))
 | (refine Ajz ⟨.inr rfl,[528,529],[],_,by decide,rfl,?_⟩;(try simp (disch:=omega) only [push_cast,seval,↓Apz,↓Amz,↓List.map_cons,↓List.map_nil,hv,hNN,hWW,hN]))))
      all_goals exact ⟨rfl,rfl⟩
    · have hno:sdT (a1,a2) d=none:=by unfold sdT;rw [if_neg (fun h=>hd h.2)]
      rw [hno]
      by_cases h0:0 ≤ d
      · (repeat' (first
 | (first|refine Alz ?_|refine Agz ?_)
 | ((first|refine Anz ?_|refine Asz (mid:=l28r4a) (post:=l28r4b) Awz (by decide) ?_|refine Afz ?_|refine Ahz ?_|refine Aiz ?_);simp (disch:=omega) only [push_cast,seval,l28r0,l28r1,l28r2,l28r3,l28r4a,l28r4b,l28r4,hv,h0])
 | ((first|refine Acz ?_ ?_|refine Aez ?_ ?_|refine Adz ?_ ?_)<;>intro h<;>(try simp only [h])<;>(try simp only [bitvec_to_nat] at h)<;>(try simp only [h])<;>(first|(exfalso;omega)|(exfalso;simp_all;done)|(simp (disch:=omega) only [push_cast,seval,hv,h0])|skip))
 | ((first|refine Aqz false ?_|refine qcallD_of false ?_);simp (disch:=omega) only [push_cast,seval,hv,h0])
 | ((first|((first|refine call0D (BCall.ofP (ivT_ok _ _ _ _ ?_ ?_ ?_)) ?_|refine qcall0D (BCall.ofP (ivT_ok _ _ _ _ ?_ ?_ ?_)) ⟨_,_,rfl,rfl⟩ ?_);(iterate 3 (exact sd));rintro _ _ ⟨rfl,rfl⟩)|((first|refine call0D (BCall.ofP (upTo_ok _ _)) ?_|refine qcall0D (BCall.ofP (upTo_ok _ _)) ⟨_,_,rfl,rfl⟩ ?_);rintro _ _ ⟨rfl,rfl⟩)|((first|refine call0D (BCall.ofP (progression_ok _ _ _ ?_ ?_)) ?_|refine qcall0D (BCall.ofP (progression_ok _ _ _ ?_ ?_)) ⟨_,_,rfl,rfl⟩ ?_);(iterate 2 (exact sd));rintro _ _ ⟨rfl,rfl⟩)|((first|refine call0D (inumbers_ok _ _ _ ?_) ?_|refine qcall0D (inumbers_ok _ _ _ ?_) ⟨_,_,rfl,rfl⟩ ?_);(exact sd);rintro _ _ ⟨rfl,rfl⟩)|((first|refine call0D (inumU_ok _ ?_) ?_|refine qcall0D (inumU_ok _ ?_) ⟨_,_,rfl,rfl⟩ ?_);(exact sd);rintro _ _ ⟨rfl,rfl⟩)|((first|refine call0D (iwo1_ok _ _ _ ?_ ?_) ?_|refine qcall0D (iwo1_ok _ _ _ ?_ ?_) ⟨_,_,rfl,rfl⟩ ?_);(iterate 2 (exact sd));rintro _ _ ⟨rfl,rfl⟩)|((first|refine call0D (iCon1_ok _ _ _ _ _ _ _ _ ?_ ?_) ?_|refine qcall0D (iCon1_ok _ _ _ _ _ _ _ _ ?_ ?_) ⟨_,_,rfl,rfl⟩ ?_);(iterate 2 (exact sd));rintro _ _ ⟨rfl,rfl⟩))<;>(try simp (disch:=omega) only [push_cast,seval,hv,h0]))
 | (refine Ajz ⟨.inr rfl,[16000,16016],[(16000,1),(16016,1)],_,by decide,rfl,?_⟩;(try simp (disch:=omega) only [push_cast,seval,↓Apz,↓Amz,↓List.map_cons,↓List.map_nil,hv,h0]))))
        all_goals exact ⟨rfl,rfl⟩
      · (repeat' (first
 | (first|refine Alz ?_|refine Agz ?_)
 | ((first|refine Anz ?_|refine Asz (mid:=l28r4a) (post:=l28r4b) Awz (by decide) ?_|refine Afz ?_|refine Ahz ?_|refine Aiz ?_);simp (disch:=omega) only [push_cast,seval,l28r0,l28r1,l28r2,l28r3,l28r4a,l28r4b,l28r4,hv,h0])
 | ((first|refine Acz ?_ ?_|refine Aez ?_ ?_|refine Adz ?_ ?_)<;>intro h<;>(try simp only [h])<;>(try simp only [bitvec_to_nat] at h)<;>(try simp only [h])<;>(first|(exfalso;omega)|(exfalso;simp_all;done)|(simp (disch:=omega) only [push_cast,seval,hv,h0])|skip))
 | ((first|refine Aqz false ?_|refine qcallD_of false ?_);simp (disch:=omega) only [push_cast,seval,hv,h0])
 | ((first|((first|refine call0D (BCall.ofP (ivT_ok _ _ _ _ ?_ ?_ ?_)) ?_|refine qcall0D (BCall.ofP (ivT_ok _ _ _ _ ?_ ?_ ?_)) ⟨_,_,rfl,rfl⟩ ?_);(iterate 3 (exact sd));rintro _ _ ⟨rfl,rfl⟩)|((first|refine call0D (BCall.ofP (upTo_ok _ _)) ?_|refine qcall0D (BCall.ofP (upTo_ok _ _)) ⟨_,_,rfl,rfl⟩ ?_);rintro _ _ ⟨rfl,rfl⟩)|((first|refine call0D (BCall.ofP (progression_ok _ _ _ ?_ ?_)) ?_|refine qcall0D (BCall.ofP (progression_ok _ _ _ ?_ ?_)) ⟨_,_,rfl,rfl⟩ ?_);(iterate 2 (exact sd));rintro _ _ ⟨rfl,rfl⟩)|((first|refine call0D (inumbers_ok _ _ _ ?_) ?_|refine qcall0D (inumbers_ok _ _ _ ?_) ⟨_,_,rfl,rfl⟩ ?_);(exact sd);rintro _ _ ⟨rfl,rfl⟩)|((first|refine call0D (inumU_ok _ ?_) ?_|refine qcall0D (inumU_ok _ ?_) ⟨_,_,rfl,rfl⟩ ?_);(exact sd);rintro _ _ ⟨rfl,rfl⟩)|((first|refine call0D (iwo1_ok _ _ _ ?_ ?_) ?_|refine qcall0D (iwo1_ok _ _ _ ?_ ?_) ⟨_,_,rfl,rfl⟩ ?_);(iterate 2 (exact sd));rintro _ _ ⟨rfl,rfl⟩)|((first|refine call0D (iCon1_ok _ _ _ _ _ _ _ _ ?_ ?_) ?_|refine qcall0D (iCon1_ok _ _ _ _ _ _ _ _ ?_ ?_) ⟨_,_,rfl,rfl⟩ ?_);(iterate 2 (exact sd));rintro _ _ ⟨rfl,rfl⟩))<;>(try simp (disch:=omega) only [push_cast,seval,hv,h0]))
 | (refine Ajz ⟨.inr rfl,[16000,16016],[(16000,1),(16016,1)],_,by decide,rfl,?_⟩;(try simp (disch:=omega) only [push_cast,seval,↓Apz,↓Amz,↓List.map_cons,↓List.map_nil,hv,h0]))))
        all_goals exact ⟨rfl,rfl⟩

end Go.Proofs.Ytbplegbgofnolaa
set_option linter.unusedSimpArgs false
set_option linter.unusedVariables false
set_option maxRecDepth 4000
set_option maxHeartbeats 4000000
namespace Go.Proofs.Ytbplegbgofnolaa
open VwM Vw Go

/-- Labels that agree with extents are agreed on. -/
theorem ex_of {ts:List Tn} {ls:List (List Int)} (f:Int → Int) (hv:ts.all vT=true) (h1:1 ≤ ts.length ∧ ts.length ≤ 3) (hlen:ls.length=ts.length)
    (hl:∀ (i:Nat) (t:Tn) (l:List Int),ts[i]?=some t → ls[i]?=some l → l.length=t.1.length ∧ (∀ x ∈ l,0 ≤ x ∧ x ≤ 4) ∧ ∀ j,j < l.length → f (l.getD j 0)=t.1.getD j 0):∃ e,exO ts ls=some e:=by
  have hok:labOk ts ls=true:=by
    unfold labOk
    rw [List.all_eq_true]
    intro p hp
    obtain ⟨i,hi⟩:=List.mem_iff_getElem?.1 hp
    obtain ⟨a,b⟩:=List.getElem?_zip_eq_some.1 hi
    have:=hl i p.2 p.1 b a
    rw [Bool.and_eq_true,decide_eq_true_eq,Bpz]
    exact ⟨this.1,this.2.1⟩
  obtain ⟨e,he⟩:=extG_ok (f:=fun k=>f (k:Int)) (prsOf ts ls) (e:=ext0) (fun p hp=>by
    obtain ⟨i,t,l,j,ht,hl2,hj,_,rfl⟩:=mem_prs hp
    obtain ⟨a,b,c⟩:=hl i t l ht hl2
    have hb:=b _ (A7z hj)
    refine ⟨by rw [B5z];simp only;omega,?_⟩
    simp only
    rw [show (((l.getD j 0).toNat:Nat):Int)=l.getD j 0 by omega]
    exact c j hj) (fun k hk h0=>by
    rw [B5z] at hk
    have:k=0 ∨ k=1 ∨ k=2 ∨ k=3 ∨ k=4:=by omega
    rcases this with rfl|rfl|rfl|rfl|rfl<;>exact absurd h0 (by decide))
  refine ⟨e,?_⟩
  unfold exO
  rw [if_pos (by rw [hv];simp [h1,hlen])]
  unfold exT
  rw [if_pos hok]
  exact he
theorem one_of {t:Tn} {l:List Int} (f:Int → Int) (hv:vT t=true) (h1:l.length=t.1.length) (h2:∀ x ∈ l,0 ≤ x ∧ x ≤ 4) (h3:∀ j,j < l.length → f (l.getD j 0)=t.1.getD j 0):∃ e,exO [t] [l]=some e :=
  ex_of f (by simp [hv]) (by simp) rfl fun i t' l' ht hl=>by
    match i,ht,hl with
    | 0,ht,hl=>simp only [List.getElem?_cons_zero,Option.some.injEq] at ht hl;subst ht hl;exact ⟨h1,h2,h3⟩
/-- The space of labels,those of the result first. -/
theorem sp_out {ts:List Tn} {ls:List (List Int)} {e out:List Int} (hC:CtOk ts ls e) (ho:∀ x ∈ out,x ∈ ls.flatten) (hon:out.Nodup):pr (spE e)=pr (out.map (gE e)) * pr ((sumd ls out).map (gE e)):=by
  rw [spE_lbS (U:=ls.flatten) hC.len hC.un (fun k hk hm=>by have:=(hC.used _ hm).2.1;unfold gE at this;rwa [Int.toNat_natCast] at this),pr_perm ((outk hC ho hon).map (gE e)),List.map_append,pr_append]
theorem sumd_all {ls:List (List Int)} {out:List Int} (h:∀ x ∈ ls.flatten,x ∈ out):sumd ls out=[]:=by
  refine List.eq_nil_iff_forall_not_mem.2 fun x hx=>?_
  have:=Byz.1 hx
  exact this.2 (h x this.1.2)
/-- A tensor with its dimensions in another order. -/
def turnT (t:Tn) (order:List Int):Tn:=(permL t.1 order,takesL t.2 (offs 0 (permL t.1 order) (permL (rowS t.1) order)))
end Go.Proofs.Ytbplegbgofnolaa
set_option linter.unusedSimpArgs false
set_option linter.unusedVariables false
set_option maxRecDepth 4000
set_option maxHeartbeats 4000000
namespace Go.Proofs.Ytbplegbgofnolaa
open VwM Vw Go

def ordB (order:List Int) (n:Nat):Bool:=decide (order.length=n) && allI order 0 ((n:Int) - 1) && decide order.Nodup
def ttT (t:Tn) (order:List Int):Tn:=if (vT t && ordB order t.1.length)=true then turnT t order else ([],[])
end Go.Proofs.Ytbplegbgofnolaa
