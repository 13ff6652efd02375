import Derived.Test.YtfkbhkpbfnklaaaCKc4
import Derived.Test.YtfkbhkpbfnklaaaCM1
import Derived.Test.YtfkbhkpbfnklaaaCW3
set_option linter.unusedSimpArgs false
set_option linter.unusedVariables false
set_option maxRecDepth 4000
set_option maxHeartbeats 4000000
namespace Go.Proofs.Ytfkbhkpbfnklaaa
open VwM Vw Go

def sdT (t:Tn) (d:Int):Option Tn:=if vT t=true ∧ 0 ≤ d ∧ d < t.1.length then ctT [t] [nums 0 1 t.1.length] (wo (nums 0 1 t.1.length) d.toNat) else none
theorem wiL_wo:∀ n:Nat,n < 5 → ∀ k:Nat,k < n → wiL (nums 0 1 n) [(k:Int)]=wo (nums 0 1 n) k:=by decide
theorem numU_v:∀ n:Nat,n < 5 → vR (pS 0 n) (pE 0 1 n) (pC 1 n)=true ∧ nums (pS 0 n) (pC 1 n) (cntN (pS 0 n) (pE 0 1 n) (pC 1 n))=nums 0 1 n:=by decide
theorem nums_len (a c:Int) (n:Nat):(nums a c n).length=n:=by simp [nums]


theorem inumU_ok (n:Nat) (hb:n ≤ 4):BCall Try.prog 77 [rng (pS 0 n) (pE 0 1 n) (pC 1 n)] [] (OI (nums 0 1 n)):=by
  have h:=numU_v n (by omega)
  have h2:=inumbers_ok _ _ _ h.1
  rw [h.2] at h2
  exact h2


theorem iCon1_ok (a1 a2 l out:List Int) (n1 n2 m q:Nat) (hn:(a1.length=n1 ∧ a2.length=n2) ∧ l.length=m ∧ out.length=q) (hb:(n1 ≤ 1099511627776 ∧ n2 ≤ 1099511627776) ∧ m ≤ 1099511627776 ∧ q ≤ 1048576) :
    BCall Try.prog 18 [.rows false [.rows false (IL a1) n1,.rows false (IL a2) n2] 1,.rows false [.rows false (IL l) m] 1,.rows false (IL out) q] [] (OTn (ctT [(a1,a2)] [l] out)):=by
  obtain ⟨⟨rfl,rfl⟩,rfl,rfl⟩:=hn
  exact iCon_ok [(a1,a2)] [l] out 1 1 _ rfl rfl rfl ⟨by omega,by simp;omega,by simp;omega⟩


theorem sCon1_ok (a1 a2 l out:List Int) (n1 n2 m q:Nat) (hn:(a1.length=n1 ∧ a2.length=n2) ∧ l.length=m ∧ out.length=q) (hb:(n1 ≤ 1099511627776 ∧ n2 ≤ 1099511627776) ∧ m ≤ 1099511627776 ∧ q ≤ 1048576) :
    BCall Try.prog 14 [.rows false [.rows false (IL a1) n1,.rows false (IL a2) n2] 1,.rows false [.rows false (IL l) m] 1,.rows false (IL out) q] [] (OTn (ctT [(a1,a2)] [l] out)):=by
  obtain ⟨⟨rfl,rfl⟩,rfl,rfl⟩:=hn
  exact sCon_ok [(a1,a2)] [l] out 1 1 _ rfl rfl rfl ⟨by omega,by simp;omega,by simp;omega⟩


theorem iwo1_ok (xs:List Int) (n:Nat) (d:Int) (hn:xs.length=n) (hb:n ≤ 1099511627776):BCall Try.prog 81 [.rows false (IL xs) n,.rows false [.int .i64 d] 1] [] (OI (wiL xs [d])):=iwithout_ok xs [d] n 1 hn rfl ⟨hb,by omega⟩


set_option maxHeartbeats 16000000 in
theorem iSD_ok (a1 a2:List Int) (d:Int) (n1 n2:Nat) (h1:a1.length=n1) (h2:a2.length=n2) (hb:n1 ≤ 1099511627776 ∧ n2 ≤ 1099511627776) :
    BCall Try.prog 39 [.agg [.rows false (IL a1) n1,.rows false (IL a2) n2],.int .i64 d] [] (OTn (sdT (a1,a2) d)):=by
  subst h1 h2
  obtain ⟨hb1,hb2⟩:=hb
  refine bcall_of (pins:=[]) (pin:=0) l39_eq rfl rfl rfl ?_
  cases hv:vT (a1,a2) with
  | false =>
    have hno:sdT (a1,a2) d=none:=by unfold sdT;rw [if_neg (by rw [hv];simp)]
    rw [hno]
    (repeat' (first
 | (first|refine awp_seq ?_|refine awp_block ?_)
 | ((first|refine awp_reg ?_|refine awp_draw (mid:=l39r4a) (post:=l39r4b) mixed (by decide) ?_|refine awp_condB ?_|refine awp_skip ?_|refine awp_exit ?_);simp (disch:=omega) only [push_cast,seval,l39r0,l39r1,l39r2,l39r3,l39r4a,l39r4b,l39r4,hv])
 | ((first|refine condB_split (fun h=>?_) (fun h=>?_)|refine gIf_split (fun h=>?_) (fun h=>?_)|refine qIf_split (fun h=>?_) (fun h=>?_))<;>(try simp only [h])<;>(try simp only [bitvec_to_nat] at h)<;>(try simp only [h])<;>(first|(exfalso;omega)|(focus (exfalso;simp_all;done))|(simp (disch:=omega) only [push_cast,seval,hv])|skip))
 | ((first|refine callD_of false ?_|refine qcallD_of false ?_);simp (disch:=omega) only [push_cast,seval,hv])
 | ((first|((first|refine call0D (BCall.ofP (ivT_ok _ _ _ _ ?_ ?_ ?_)) ?_|refine qcall0D (BCall.ofP (ivT_ok _ _ _ _ ?_ ?_ ?_)) ⟨_,_,rfl,rfl⟩ ?_);(iterate 3 (exact sd));rintro _ _ ⟨rfl,rfl⟩)|((first|refine call0D (BCall.ofP (upTo_ok _ _)) ?_|refine qcall0D (BCall.ofP (upTo_ok _ _)) ⟨_,_,rfl,rfl⟩ ?_);rintro _ _ ⟨rfl,rfl⟩)|((first|refine call0D (BCall.ofP (progression_ok _ _ _ ?_ ?_)) ?_|refine qcall0D (BCall.ofP (progression_ok _ _ _ ?_ ?_)) ⟨_,_,rfl,rfl⟩ ?_);(iterate 2 (exact sd));rintro _ _ ⟨rfl,rfl⟩)|((first|refine call0D (inumbers_ok _ _ _ ?_) ?_|refine qcall0D (inumbers_ok _ _ _ ?_) ⟨_,_,rfl,rfl⟩ ?_);(exact sd);rintro _ _ ⟨rfl,rfl⟩)|((first|refine call0D (inumU_ok _ ?_) ?_|refine qcall0D (inumU_ok _ ?_) ⟨_,_,rfl,rfl⟩ ?_);(exact sd);rintro _ _ ⟨rfl,rfl⟩)|((first|refine call0D (iwo1_ok _ _ _ ?_ ?_) ?_|refine qcall0D (iwo1_ok _ _ _ ?_ ?_) ⟨_,_,rfl,rfl⟩ ?_);(iterate 2 (exact sd));rintro _ _ ⟨rfl,rfl⟩)|((first|refine call0D (iCon1_ok _ _ _ _ _ _ _ _ ?_ ?_) ?_|refine qcall0D (iCon1_ok _ _ _ _ _ _ _ _ ?_ ?_) ⟨_,_,rfl,rfl⟩ ?_);(iterate 2 (exact sd));rintro _ _ ⟨rfl,rfl⟩))<;>(try simp (disch:=omega) only [push_cast,seval,hv]))
 | (refine awp_ret ⟨.inr rfl,[16000,16016],[(16000,1),(16016,1)],_,by decide,rfl,?_⟩;(try simp (disch:=omega) only [push_cast,seval,↓allMem_nil,↓allMem_cons,↓List.map_cons,↓List.map_nil,hv]))))
    all_goals exact ⟨rfl,rfl⟩
  | true =>
    have h4:a1.length ≤ 4:=(vSh_good (vT_spec.1 hv).1).1.2
    by_cases hd:0 ≤ d ∧ d < a1.length
    · obtain ⟨k,rfl⟩:∃ k:Nat,d=k:=⟨d.toNat,by omega⟩
      have hk:k < a1.length:=by omega
      have hyes:sdT (a1,a2) k=ctT [(a1,a2)] [nums 0 1 a1.length] (wo (nums 0 1 a1.length) k):=by unfold sdT;rw [if_pos ⟨hv,hd⟩,Int.toNat_natCast]
      rw [hyes,← wiL_wo _ (by omega) k hk]
      have hN:=nums_len 0 1 a1.length
      have hW:(wiL (nums 0 1 a1.length) [(k:Int)]).length ≤ 4:=by rw [wiL_wo _ (by omega) k hk];simp [wo];omega
      generalize hNN:nums 0 1 a1.length=N at *
      generalize hWW:wiL N [(k:Int)]=W at *
      have hP:(1:Int) ≤ a1.length → -1000000 ≤ ((a1.length:Int) - 1) * 1 ∧ ((a1.length:Int) - 1) * 1 ≤ 1000000:=fun _=>by omega
      have q1:(-100000:Int) ≤ 0 ∧ (0:Int) ≤ 100000 ∧ (-100000:Int) ≤ 1 ∧ (1:Int) ≤ 100000 ∧ (-1000:Int) ≤ a1.length ∧ (a1.length:Int) ≤ 1000:=by omega
      (repeat' (first
 | (first|refine awp_seq ?_|refine awp_block ?_)
 | ((first|refine awp_reg ?_|refine awp_drawX (mid:=l39r4a) (post:=l39r4b) [] mixed (by decide) ?_|refine awp_condB ?_|refine awp_skip ?_|refine awp_exit ?_);simp (disch:=omega) only [push_cast,seval,l39r0,l39r1,l39r2,l39r3,l39r4a,l39r4b,l39r4,hv,hNN,hWW,hN])
 | ((first|refine condB_split (fun h=>?_) (fun h=>?_)|refine gIf_split (fun h=>?_) (fun h=>?_)|refine qIf_split (fun h=>?_) (fun h=>?_))<;>(try simp only [h])<;>(try simp only [bitvec_to_nat] at h)<;>(try simp only [h])<;>(first|(exfalso;omega)|(focus (exfalso;simp_all;done))|(simp (disch:=omega) only [push_cast,seval,hv,hNN,hWW,hN])|skip))
 | ((first|refine callD_of false ?_|refine qcallD_of false ?_);simp (disch:=omega) only [push_cast,seval,hv,hNN,hWW,hN])
 | ((first|((first|refine call0D (BCall.ofP (ivT_ok _ _ _ _ ?_ ?_ ?_)) ?_|refine qcall0D (BCall.ofP (ivT_ok _ _ _ _ ?_ ?_ ?_)) ⟨_,_,rfl,rfl⟩ ?_);(iterate 3 (exact sd));rintro _ _ ⟨rfl,rfl⟩)|((first|refine call0D (BCall.ofP (upTo_ok _ _)) ?_|refine qcall0D (BCall.ofP (upTo_ok _ _)) ⟨_,_,rfl,rfl⟩ ?_);rintro _ _ ⟨rfl,rfl⟩)|((first|refine call0D (BCall.ofP (progression_ok _ _ _ ?_ ?_)) ?_|refine qcall0D (BCall.ofP (progression_ok _ _ _ ?_ ?_)) ⟨_,_,rfl,rfl⟩ ?_);(iterate 2 (exact sd));rintro _ _ ⟨rfl,rfl⟩)|((first|refine call0D (inumbers_ok _ _ _ ?_) ?_|refine qcall0D (inumbers_ok _ _ _ ?_) ⟨_,_,rfl,rfl⟩ ?_);(exact sd);rintro _ _ ⟨rfl,rfl⟩)|((first|refine call0D (inumU_ok _ ?_) ?_|refine qcall0D (inumU_ok _ ?_) ⟨_,_,rfl,rfl⟩ ?_);(exact sd);rintro _ _ ⟨rfl,rfl⟩)|((first|refine call0D (iwo1_ok _ _ _ ?_ ?_) ?_|refine qcall0D (BCall.ofP (plainI (iwo1_ok _ _ _ ?_ ?_))) ⟨_,_,rfl,rfl⟩ ?_);(iterate 2 (exact sd));rintro _ _ ⟨rfl,rfl⟩)|((first|refine call0D (iCon1_ok _ _ _ _ _ _ _ _ ?_ ?_) ?_|refine qcall0D (iCon1_ok _ _ _ _ _ _ _ _ ?_ ?_) ⟨_,_,rfl,rfl⟩ ?_);(iterate 2 (exact sd));rintro _ _ ⟨rfl,rfl⟩))<;>(try simp (disch:=omega) only [push_cast,seval,hv,hNN,hWW,hN]))
 | (refine awp_ret ⟨.inr rfl,[528,529],[],_,by decide,rfl,?_⟩;(try simp (disch:=omega) only [push_cast,seval,↓allMem_nil,↓allMem_cons,↓List.map_cons,↓List.map_nil,hv,hNN,hWW,hN]))))
      all_goals exact ⟨rfl,rfl⟩
    · have hno:sdT (a1,a2) d=none:=by unfold sdT;rw [if_neg (fun h=>hd h.2)]
      rw [hno]
      by_cases h0:0 ≤ d
      · (repeat' (first
 | (first|refine awp_seq ?_|refine awp_block ?_)
 | ((first|refine awp_reg ?_|refine awp_draw (mid:=l39r4a) (post:=l39r4b) mixed (by decide) ?_|refine awp_condB ?_|refine awp_skip ?_|refine awp_exit ?_);simp (disch:=omega) only [push_cast,seval,l39r0,l39r1,l39r2,l39r3,l39r4a,l39r4b,l39r4,hv,h0])
 | ((first|refine condB_split (fun h=>?_) (fun h=>?_)|refine gIf_split (fun h=>?_) (fun h=>?_)|refine qIf_split (fun h=>?_) (fun h=>?_))<;>(try simp only [h])<;>(try simp only [bitvec_to_nat] at h)<;>(try simp only [h])<;>(first|(exfalso;omega)|(focus (exfalso;simp_all;done))|(simp (disch:=omega) only [push_cast,seval,hv,h0])|skip))
 | ((first|refine callD_of false ?_|refine qcallD_of false ?_);simp (disch:=omega) only [push_cast,seval,hv,h0])
 | ((first|((first|refine call0D (BCall.ofP (ivT_ok _ _ _ _ ?_ ?_ ?_)) ?_|refine qcall0D (BCall.ofP (ivT_ok _ _ _ _ ?_ ?_ ?_)) ⟨_,_,rfl,rfl⟩ ?_);(iterate 3 (exact sd));rintro _ _ ⟨rfl,rfl⟩)|((first|refine call0D (BCall.ofP (upTo_ok _ _)) ?_|refine qcall0D (BCall.ofP (upTo_ok _ _)) ⟨_,_,rfl,rfl⟩ ?_);rintro _ _ ⟨rfl,rfl⟩)|((first|refine call0D (BCall.ofP (progression_ok _ _ _ ?_ ?_)) ?_|refine qcall0D (BCall.ofP (progression_ok _ _ _ ?_ ?_)) ⟨_,_,rfl,rfl⟩ ?_);(iterate 2 (exact sd));rintro _ _ ⟨rfl,rfl⟩)|((first|refine call0D (inumbers_ok _ _ _ ?_) ?_|refine qcall0D (inumbers_ok _ _ _ ?_) ⟨_,_,rfl,rfl⟩ ?_);(exact sd);rintro _ _ ⟨rfl,rfl⟩)|((first|refine call0D (inumU_ok _ ?_) ?_|refine qcall0D (inumU_ok _ ?_) ⟨_,_,rfl,rfl⟩ ?_);(exact sd);rintro _ _ ⟨rfl,rfl⟩)|((first|refine call0D (iwo1_ok _ _ _ ?_ ?_) ?_|refine qcall0D (iwo1_ok _ _ _ ?_ ?_) ⟨_,_,rfl,rfl⟩ ?_);(iterate 2 (exact sd));rintro _ _ ⟨rfl,rfl⟩)|((first|refine call0D (iCon1_ok _ _ _ _ _ _ _ _ ?_ ?_) ?_|refine qcall0D (iCon1_ok _ _ _ _ _ _ _ _ ?_ ?_) ⟨_,_,rfl,rfl⟩ ?_);(iterate 2 (exact sd));rintro _ _ ⟨rfl,rfl⟩))<;>(try simp (disch:=omega) only [push_cast,seval,hv,h0]))
 | (refine awp_ret ⟨.inr rfl,[16000,16016],[(16000,1),(16016,1)],_,by decide,rfl,?_⟩;(try simp (disch:=omega) only [push_cast,seval,↓allMem_nil,↓allMem_cons,↓List.map_cons,↓List.map_nil,hv,h0]))))
        all_goals exact ⟨rfl,rfl⟩
      · (repeat' (first
 | (first|refine awp_seq ?_|refine awp_block ?_)
 | ((first|refine awp_reg ?_|refine awp_draw (mid:=l39r4a) (post:=l39r4b) mixed (by decide) ?_|refine awp_condB ?_|refine awp_skip ?_|refine awp_exit ?_);simp (disch:=omega) only [push_cast,seval,l39r0,l39r1,l39r2,l39r3,l39r4a,l39r4b,l39r4,hv,h0])
 | ((first|refine condB_split (fun h=>?_) (fun h=>?_)|refine gIf_split (fun h=>?_) (fun h=>?_)|refine qIf_split (fun h=>?_) (fun h=>?_))<;>(try simp only [h])<;>(try simp only [bitvec_to_nat] at h)<;>(try simp only [h])<;>(first|(exfalso;omega)|(focus (exfalso;simp_all;done))|(simp (disch:=omega) only [push_cast,seval,hv,h0])|skip))
 | ((first|refine callD_of false ?_|refine qcallD_of false ?_);simp (disch:=omega) only [push_cast,seval,hv,h0])
 | ((first|((first|refine call0D (BCall.ofP (ivT_ok _ _ _ _ ?_ ?_ ?_)) ?_|refine qcall0D (BCall.ofP (ivT_ok _ _ _ _ ?_ ?_ ?_)) ⟨_,_,rfl,rfl⟩ ?_);(iterate 3 (exact sd));rintro _ _ ⟨rfl,rfl⟩)|((first|refine call0D (BCall.ofP (upTo_ok _ _)) ?_|refine qcall0D (BCall.ofP (upTo_ok _ _)) ⟨_,_,rfl,rfl⟩ ?_);rintro _ _ ⟨rfl,rfl⟩)|((first|refine call0D (BCall.ofP (progression_ok _ _ _ ?_ ?_)) ?_|refine qcall0D (BCall.ofP (progression_ok _ _ _ ?_ ?_)) ⟨_,_,rfl,rfl⟩ ?_);(iterate 2 (exact sd));rintro _ _ ⟨rfl,rfl⟩)|((first|refine call0D (inumbers_ok _ _ _ ?_) ?_|refine qcall0D (inumbers_ok _ _ _ ?_) ⟨_,_,rfl,rfl⟩ ?_);(exact sd);rintro _ _ ⟨rfl,rfl⟩)|((first|refine call0D (inumU_ok _ ?_) ?_|refine qcall0D (inumU_ok _ ?_) ⟨_,_,rfl,rfl⟩ ?_);(exact sd);rintro _ _ ⟨rfl,rfl⟩)|((first|refine call0D (iwo1_ok _ _ _ ?_ ?_) ?_|refine qcall0D (iwo1_ok _ _ _ ?_ ?_) ⟨_,_,rfl,rfl⟩ ?_);(iterate 2 (exact sd));rintro _ _ ⟨rfl,rfl⟩)|((first|refine call0D (iCon1_ok _ _ _ _ _ _ _ _ ?_ ?_) ?_|refine qcall0D (iCon1_ok _ _ _ _ _ _ _ _ ?_ ?_) ⟨_,_,rfl,rfl⟩ ?_);(iterate 2 (exact sd));rintro _ _ ⟨rfl,rfl⟩))<;>(try simp (disch:=omega) only [push_cast,seval,hv,h0]))
 | (refine awp_ret ⟨.inr rfl,[16000,16016],[(16000,1),(16016,1)],_,by decide,rfl,?_⟩;(try simp (disch:=omega) only [push_cast,seval,↓allMem_nil,↓allMem_cons,↓List.map_cons,↓List.map_nil,hv,h0]))))
        all_goals exact ⟨rfl,rfl⟩


set_option maxHeartbeats 16000000 in
theorem sSD_ok (a1 a2:List Int) (d:Int) (n1 n2:Nat) (h1:a1.length=n1) (h2:a2.length=n2) (hb:n1 ≤ 1099511627776 ∧ n2 ≤ 1099511627776) :
    BCall Try.prog 38 [.agg [.rows false (IL a1) n1,.rows false (IL a2) n2],.int .i64 d] [] (OTn (sdT (a1,a2) d)):=by
  subst h1 h2
  obtain ⟨hb1,hb2⟩:=hb
  refine bcall_of (pins:=[]) (pin:=0) l38_eq rfl rfl rfl ?_
  cases hv:vT (a1,a2) with
  | false =>
    have hno:sdT (a1,a2) d=none:=by unfold sdT;rw [if_neg (by rw [hv];simp)]
    rw [hno]
    (repeat' (first
 | (first|refine awp_seq ?_|refine awp_block ?_)
 | ((first|refine awp_reg ?_|refine awp_draw (mid:=l38r3a) (post:=l38r3b) mixed (by decide) ?_|refine awp_condB ?_|refine awp_skip ?_|refine awp_exit ?_);simp (disch:=omega) only [push_cast,seval,l38r0,l38r1,l38r2,l38r3a,l38r3b,l38r3,hv])
 | ((first|refine condB_split (fun h=>?_) (fun h=>?_)|refine gIf_split (fun h=>?_) (fun h=>?_)|refine qIf_split (fun h=>?_) (fun h=>?_))<;>(try simp only [h])<;>(try simp only [bitvec_to_nat] at h)<;>(try simp only [h])<;>(first|(exfalso;omega)|(focus (exfalso;simp_all;done))|(simp (disch:=omega) only [push_cast,seval,hv])|skip))
 | ((first|refine callD_of false ?_|refine qcallD_of false ?_);simp (disch:=omega) only [push_cast,seval,hv])
 | ((first|((first|refine call0D (BCall.ofP (svT_ok _ _ _ _ ?_ ?_ ?_)) ?_|refine qcall0D (BCall.ofP (svT_ok _ _ _ _ ?_ ?_ ?_)) ⟨_,_,rfl,rfl⟩ ?_);(iterate 3 (exact sd));rintro _ _ ⟨rfl,rfl⟩)|((first|refine call0D (BCall.ofP (inRange_ok _ _ _)) ?_|refine qcall0D (BCall.ofP (inRange_ok _ _ _)) ⟨_,_,rfl,rfl⟩ ?_);rintro _ _ ⟨rfl,rfl⟩)|((first|refine call0D (supTo_ok _ ?_) ?_|refine qcall0D (supTo_ok _ ?_) ⟨_,_,rfl,rfl⟩ ?_);(exact sd);rintro _ _ ⟨rfl,rfl⟩)|((first|refine call0D (swithout_ok _ _ _ ?_ ?_) ?_|refine qcall0D (swithout_ok _ _ _ ?_ ?_) ⟨_,_,rfl,rfl⟩ ?_);(iterate 2 (exact sd));rintro _ _ ⟨rfl,rfl⟩)|((first|refine call0D (sCon1_ok _ _ _ _ _ _ _ _ ?_ ?_) ?_|refine qcall0D (sCon1_ok _ _ _ _ _ _ _ _ ?_ ?_) ⟨_,_,rfl,rfl⟩ ?_);(iterate 2 (exact sd));rintro _ _ ⟨rfl,rfl⟩))<;>(try simp (disch:=omega) only [push_cast,seval,hv]))
 | (refine awp_ret ⟨.inr rfl,[16000,16016],[(16000,1),(16016,1)],_,by decide,rfl,?_⟩;(try simp (disch:=omega) only [push_cast,seval,↓allMem_nil,↓allMem_cons,↓List.map_cons,↓List.map_nil,hv]))))
    all_goals exact ⟨rfl,rfl⟩
  | true =>
    have h4:a1.length ≤ 4:=(vSh_good (vT_spec.1 hv).1).1.2
    by_cases hd:0 ≤ d ∧ d < a1.length
    · obtain ⟨k,rfl⟩:∃ k:Nat,d=k:=⟨d.toNat,by omega⟩
      have hk:k < a1.length:=by omega
      have hyes:sdT (a1,a2) k=ctT [(a1,a2)] [nums 0 1 a1.length] (wo (nums 0 1 a1.length) k):=by unfold sdT;rw [if_pos ⟨hv,hd⟩,Int.toNat_natCast]
      rw [hyes]
      have hN:=nums_len 0 1 a1.length
      have hW:(wo (nums 0 1 a1.length) k).length ≤ 4:=by simp [wo];omega
      have q0:k < a1.length ∧ a1.length ≤ 1099511627776:=⟨hk,by omega⟩
      have q1:a1.length ≤ 1000:=by omega
      generalize hNN:nums 0 1 a1.length=N at *
      generalize hWW:wo N k=W at *
      (repeat' (first
 | (first|refine awp_seq ?_|refine awp_block ?_)
 | ((first|refine awp_reg ?_|refine awp_drawX (mid:=l38r3a) (post:=l38r3b) [] mixed (by decide) ?_|refine awp_condB ?_|refine awp_skip ?_|refine awp_exit ?_);simp (disch:=omega) only [push_cast,seval,l38r0,l38r1,l38r2,l38r3a,l38r3b,l38r3,hv,hNN,hWW,hN])
 | ((first|refine condB_split (fun h=>?_) (fun h=>?_)|refine gIf_split (fun h=>?_) (fun h=>?_)|refine qIf_split (fun h=>?_) (fun h=>?_))<;>(try simp only [h])<;>(try simp only [bitvec_to_nat] at h)<;>(try simp only [h])<;>(first|(exfalso;omega)|(focus (exfalso;simp_all;done))|(simp (disch:=omega) only [push_cast,seval,hv,hNN,hWW,hN])|skip))
 | ((first|refine callD_of false ?_|refine qcallD_of false ?_);simp (disch:=omega) only [push_cast,seval,hv,hNN,hWW,hN])
 | ((first|((first|refine call0D (BCall.ofP (svT_ok _ _ _ _ ?_ ?_ ?_)) ?_|refine qcall0D (BCall.ofP (svT_ok _ _ _ _ ?_ ?_ ?_)) ⟨_,_,rfl,rfl⟩ ?_);(iterate 3 (exact sd));rintro _ _ ⟨rfl,rfl⟩)|((first|refine call0D (BCall.ofP (inRange_ok _ _ _)) ?_|refine qcall0D (BCall.ofP (inRange_ok _ _ _)) ⟨_,_,rfl,rfl⟩ ?_);rintro _ _ ⟨rfl,rfl⟩)|((first|refine call0D (supTo_ok _ ?_) ?_|refine qcall0D (BCall.ofP (plainI (supTo_ok _ ?_))) ⟨_,_,rfl,rfl⟩ ?_);(exact sd);rintro _ _ ⟨rfl,rfl⟩)|((first|refine call0D (swithout_ok _ _ _ ?_ ?_) ?_|refine qcall0D (BCall.ofP (plainI (swithout_ok _ _ _ ?_ ?_))) ⟨_,_,rfl,rfl⟩ ?_);(iterate 2 (exact sd));rintro _ _ ⟨rfl,rfl⟩)|((first|refine call0D (sCon1_ok _ _ _ _ _ _ _ _ ?_ ?_) ?_|refine qcall0D (sCon1_ok _ _ _ _ _ _ _ _ ?_ ?_) ⟨_,_,rfl,rfl⟩ ?_);(iterate 2 (exact sd));rintro _ _ ⟨rfl,rfl⟩))<;>(try simp (disch:=omega) only [push_cast,seval,hv,hNN,hWW,hN]))
 | (refine awp_ret ⟨.inr rfl,[512,513],[],_,by decide,rfl,?_⟩;(try simp (disch:=omega) only [push_cast,seval,↓allMem_nil,↓allMem_cons,↓List.map_cons,↓List.map_nil,hv,hNN,hWW,hN]))))
      all_goals exact ⟨rfl,rfl⟩
    · have hno:sdT (a1,a2) d=none:=by unfold sdT;rw [if_neg (fun h=>hd h.2)]
      rw [hno]
      by_cases h0:0 ≤ d
      · (repeat' (first
 | (first|refine awp_seq ?_|refine awp_block ?_)
 | ((first|refine awp_reg ?_|refine awp_draw (mid:=l38r3a) (post:=l38r3b) mixed (by decide) ?_|refine awp_condB ?_|refine awp_skip ?_|refine awp_exit ?_);simp (disch:=omega) only [push_cast,seval,l38r0,l38r1,l38r2,l38r3a,l38r3b,l38r3,hv,h0])
 | ((first|refine condB_split (fun h=>?_) (fun h=>?_)|refine gIf_split (fun h=>?_) (fun h=>?_)|refine qIf_split (fun h=>?_) (fun h=>?_))<;>(try simp only [h])<;>(try simp only [bitvec_to_nat] at h)<;>(try simp only [h])<;>(first|(exfalso;omega)|(focus (exfalso;simp_all;done))|(simp (disch:=omega) only [push_cast,seval,hv,h0])|skip))
 | ((first|refine callD_of false ?_|refine qcallD_of false ?_);simp (disch:=omega) only [push_cast,seval,hv,h0])
 | ((first|((first|refine call0D (BCall.ofP (svT_ok _ _ _ _ ?_ ?_ ?_)) ?_|refine qcall0D (BCall.ofP (svT_ok _ _ _ _ ?_ ?_ ?_)) ⟨_,_,rfl,rfl⟩ ?_);(iterate 3 (exact sd));rintro _ _ ⟨rfl,rfl⟩)|((first|refine call0D (BCall.ofP (inRange_ok _ _ _)) ?_|refine qcall0D (BCall.ofP (inRange_ok _ _ _)) ⟨_,_,rfl,rfl⟩ ?_);rintro _ _ ⟨rfl,rfl⟩)|((first|refine call0D (supTo_ok _ ?_) ?_|refine qcall0D (supTo_ok _ ?_) ⟨_,_,rfl,rfl⟩ ?_);(exact sd);rintro _ _ ⟨rfl,rfl⟩)|((first|refine call0D (swithout_ok _ _ _ ?_ ?_) ?_|refine qcall0D (swithout_ok _ _ _ ?_ ?_) ⟨_,_,rfl,rfl⟩ ?_);(iterate 2 (exact sd));rintro _ _ ⟨rfl,rfl⟩)|((first|refine call0D (sCon1_ok _ _ _ _ _ _ _ _ ?_ ?_) ?_|refine qcall0D (sCon1_ok _ _ _ _ _ _ _ _ ?_ ?_) ⟨_,_,rfl,rfl⟩ ?_);(iterate 2 (exact sd));rintro _ _ ⟨rfl,rfl⟩))<;>(try simp (disch:=omega) only [push_cast,seval,hv,h0]))
 | (refine awp_ret ⟨.inr rfl,[16000,16016],[(16000,1),(16016,1)],_,by decide,rfl,?_⟩;(try simp (disch:=omega) only [push_cast,seval,↓allMem_nil,↓allMem_cons,↓List.map_cons,↓List.map_nil,hv,h0]))))
        all_goals exact ⟨rfl,rfl⟩
      · (repeat' (first
 | (first|refine awp_seq ?_|refine awp_block ?_)
 | ((first|refine awp_reg ?_|refine awp_draw (mid:=l38r3a) (post:=l38r3b) mixed (by decide) ?_|refine awp_condB ?_|refine awp_skip ?_|refine awp_exit ?_);simp (disch:=omega) only [push_cast,seval,l38r0,l38r1,l38r2,l38r3a,l38r3b,l38r3,hv,h0])
 | ((first|refine condB_split (fun h=>?_) (fun h=>?_)|refine gIf_split (fun h=>?_) (fun h=>?_)|refine qIf_split (fun h=>?_) (fun h=>?_))<;>(try simp only [h])<;>(try simp only [bitvec_to_nat] at h)<;>(try simp only [h])<;>(first|(exfalso;omega)|(focus (exfalso;simp_all;done))|(simp (disch:=omega) only [push_cast,seval,hv,h0])|skip))
 | ((first|refine callD_of false ?_|refine qcallD_of false ?_);simp (disch:=omega) only [push_cast,seval,hv,h0])
 | ((first|((first|refine call0D (BCall.ofP (svT_ok _ _ _ _ ?_ ?_ ?_)) ?_|refine qcall0D (BCall.ofP (svT_ok _ _ _ _ ?_ ?_ ?_)) ⟨_,_,rfl,rfl⟩ ?_);(iterate 3 (exact sd));rintro _ _ ⟨rfl,rfl⟩)|((first|refine call0D (BCall.ofP (inRange_ok _ _ _)) ?_|refine qcall0D (BCall.ofP (inRange_ok _ _ _)) ⟨_,_,rfl,rfl⟩ ?_);rintro _ _ ⟨rfl,rfl⟩)|((first|refine call0D (supTo_ok _ ?_) ?_|refine qcall0D (supTo_ok _ ?_) ⟨_,_,rfl,rfl⟩ ?_);(exact sd);rintro _ _ ⟨rfl,rfl⟩)|((first|refine call0D (swithout_ok _ _ _ ?_ ?_) ?_|refine qcall0D (swithout_ok _ _ _ ?_ ?_) ⟨_,_,rfl,rfl⟩ ?_);(iterate 2 (exact sd));rintro _ _ ⟨rfl,rfl⟩)|((first|refine call0D (sCon1_ok _ _ _ _ _ _ _ _ ?_ ?_) ?_|refine qcall0D (sCon1_ok _ _ _ _ _ _ _ _ ?_ ?_) ⟨_,_,rfl,rfl⟩ ?_);(iterate 2 (exact sd));rintro _ _ ⟨rfl,rfl⟩))<;>(try simp (disch:=omega) only [push_cast,seval,hv,h0]))
 | (refine awp_ret ⟨.inr rfl,[16000,16016],[(16000,1),(16016,1)],_,by decide,rfl,?_⟩;(try simp (disch:=omega) only [push_cast,seval,↓allMem_nil,↓allMem_cons,↓List.map_cons,↓List.map_nil,hv,h0]))))
        all_goals exact ⟨rfl,rfl⟩

end Go.Proofs.Ytfkbhkpbfnklaaa
