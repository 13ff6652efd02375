import Derived.Test.YtfkbhkpbfnklaaaCKq7
import Derived.Test.YtfkbhkpbfnklaaaCM1
import Derived.Test.YtfkbhkpbfnklaaaCW3
set_option linter.unusedSimpArgs false
set_option linter.unusedVariables false
set_option maxRecDepth 4000
set_option maxHeartbeats 4000000
namespace Go.Proofs.Ytfkbhkpbfnklaaa
open VwM Vw Go

/-- The product of two matrices,the trace of one: contractions with labels that are written down. -/
abbrev mmT (a b:Tn):Option Tn:=ctT [a,b] [[0,1],[1,2]] [0,2]
abbrev trT (t:Tn):Option Tn:=ctT [t] [[0,0]] []
abbrev bTn (t:Tn):Prop:=t.1.length ≤ 1099511627776 ∧ t.2.length ≤ 1099511627776
theorem ctT_vT {ts:List Tn} {ls:List (List Int)} {out:List Int} {t:Tn} (h:ctT ts ls out=some t):vT t=true:=by
  unfold ctT at h
  cases he:exO ts ls with
  | none=>rw [he] at h;cases h
  | some e =>
    rw [he] at h
    simp only [Option.bind_some] at h
    split at h
    · rename_i hc
      injection h with h
      rw [Bool.and_eq_true] at hc
      rw [← h];exact hc.2
    · cases h
theorem trT_one {t v:Tn} (h:trT t=some v):∃ x,v.2=[x]:=by
  have h2:=h
  unfold trT ctT at h
  cases he:exO [t] [[0,0]] with
  | none=>rw [he] at h;cases h
  | some e =>
    rw [he] at h
    simp only [Option.bind_some] at h
    split at h
    · injection h with h
      have h3:=(vT_spec.1 (ctT_vT h2)).2.1
      have h4:v.1=[]:=by rw [← h];rfl
      rw [h4] at h3
      have h5:v.2.length=1:=by have:pr ([]:List Int)=1:=rfl;omega
      match hv:v.2,h5 with
 | [x],_=>exact ⟨x,rfl⟩
    · cases h
theorem zcT1 (z:AV):zcells [z] 2=[z,z]:=by simp [zcells,List.range_succ]
theorem zcT2 (x y:AV):zcells [x,y] 2=[x,y,x,y]:=by simp [zcells,List.range_succ]


theorem sConM_ok (a1 a2 b1 b2:List Int) (n1 n2 m1 m2:Nat) (hn:(a1.length=n1 ∧ a2.length=n2) ∧ b1.length=m1 ∧ b2.length=m2) (hb:(n1 ≤ 1099511627776 ∧ n2 ≤ 1099511627776) ∧ m1 ≤ 1099511627776 ∧ m2 ≤ 1099511627776) :
    BCall Try.prog 14 [.rows false [.rows false (IL a1) n1,.rows false (IL a2) n2,.rows false (IL b1) m1,.rows false (IL b2) m2] 2,.rows false [.rows false [.int .i64 0,.int .i64 1] 2,.rows false [.int .i64 1,.int .i64 2] 2] 2,.rows false [.int .i64 0,.int .i64 2] 2] [] (OTn (mmT (a1,a2) (b1,b2))):=by
  obtain ⟨⟨rfl,rfl⟩,rfl,rfl⟩:=hn
  exact sCon_ok [(a1,a2),(b1,b2)] [[0,1],[1,2]] [0,2] 2 2 2 rfl rfl rfl ⟨by omega,by simp;omega,by simp⟩


set_option maxHeartbeats 8000000 in
theorem sMM_ok (a1 a2 b1 b2:List Int) (n1 n2 m1 m2:Nat) (hn:(a1.length=n1 ∧ a2.length=n2) ∧ b1.length=m1 ∧ b2.length=m2) (hb:(n1 ≤ 1099511627776 ∧ n2 ≤ 1099511627776) ∧ m1 ≤ 1099511627776 ∧ m2 ≤ 1099511627776) :
    BCall Try.prog 31 [.agg [.rows false (IL a1) n1,.rows false (IL a2) n2],.agg [.rows false (IL b1) m1,.rows false (IL b2) m2]] [] (OTn (mmT (a1,a2) (b1,b2))):=by
  refine bcall_of (pins:=[]) (pin:=0) l31_eq rfl rfl rfl ?_
  (repeat' (first
 | (first|refine awp_seq ?_|refine awp_block ?_)
 | ((first|refine awp_reg ?_|refine awp_condB ?_|refine awp_skip ?_|refine awp_exit ?_);simp (disch:=omega) only [push_cast,seval,l31r0,l31r1,zcT1,zcT2,hn,hb])
 | ((first|refine condB_split (fun h=>?_) (fun h=>?_)|refine gIf_split (fun h=>?_) (fun h=>?_)|refine qIf_split (fun h=>?_) (fun h=>?_))<;>(try simp only [h])<;>(try simp only [bitvec_to_nat] at h)<;>(try simp only [h])<;>(first|(exfalso;omega)|(focus (exfalso;simp_all;done))|(simp (disch:=omega) only [push_cast,seval,zcT1,zcT2,hn,hb])|skip))
 | ((first|refine callD_of false ?_|refine qcallD_of false ?_);simp (disch:=omega) only [push_cast,seval,zcT1,zcT2,hn,hb])
 | ((first|((first|refine call0D (sConM_ok _ _ _ _ _ _ _ _ ?_ ?_) ?_|refine qcall0D (sConM_ok _ _ _ _ _ _ _ _ ?_ ?_) ⟨_,_,rfl,rfl⟩ ?_);(iterate 2 (exact sd));rintro _ _ ⟨rfl,rfl⟩))<;>(try simp (disch:=omega) only [push_cast,seval,zcT1,zcT2,hn,hb]))
 | (refine awp_ret ⟨.inr rfl,[208,209],[],_,by decide,rfl,?_⟩;(try simp (disch:=omega) only [push_cast,seval,↓allMem_nil,↓allMem_cons,↓List.map_cons,↓List.map_nil,zcT1,zcT2,hn,hb]))))
  all_goals exact ⟨rfl,rfl⟩


theorem iConM_ok (a1 a2 b1 b2:List Int) (n1 n2 m1 m2:Nat) (hn:(a1.length=n1 ∧ a2.length=n2) ∧ b1.length=m1 ∧ b2.length=m2) (hb:(n1 ≤ 1099511627776 ∧ n2 ≤ 1099511627776) ∧ m1 ≤ 1099511627776 ∧ m2 ≤ 1099511627776) :
    BCall Try.prog 18 [.rows false [.rows false (IL a1) n1,.rows false (IL a2) n2,.rows false (IL b1) m1,.rows false (IL b2) m2] 2,.rows false [.rows false [.int .i64 0,.int .i64 1] 2,.rows false [.int .i64 1,.int .i64 2] 2] 2,.rows false [.int .i64 0,.int .i64 2] 2] [] (OTn (mmT (a1,a2) (b1,b2))):=by
  obtain ⟨⟨rfl,rfl⟩,rfl,rfl⟩:=hn
  exact iCon_ok [(a1,a2),(b1,b2)] [[0,1],[1,2]] [0,2] 2 2 2 rfl rfl rfl ⟨by omega,by simp;omega,by simp⟩


set_option maxHeartbeats 8000000 in
theorem iMM_ok (a1 a2 b1 b2:List Int) (n1 n2 m1 m2:Nat) (hn:(a1.length=n1 ∧ a2.length=n2) ∧ b1.length=m1 ∧ b2.length=m2) (hb:(n1 ≤ 1099511627776 ∧ n2 ≤ 1099511627776) ∧ m1 ≤ 1099511627776 ∧ m2 ≤ 1099511627776) :
    BCall Try.prog 33 [.agg [.rows false (IL a1) n1,.rows false (IL a2) n2],.agg [.rows false (IL b1) m1,.rows false (IL b2) m2]] [] (OTn (mmT (a1,a2) (b1,b2))):=by
  refine bcall_of (pins:=[]) (pin:=0) l33_eq rfl rfl rfl ?_
  (repeat' (first
 | (first|refine awp_seq ?_|refine awp_block ?_)
 | ((first|refine awp_reg ?_|refine awp_condB ?_|refine awp_skip ?_|refine awp_exit ?_);simp (disch:=omega) only [push_cast,seval,l33r0,l33r1,zcT1,zcT2,hn,hb])
 | ((first|refine condB_split (fun h=>?_) (fun h=>?_)|refine gIf_split (fun h=>?_) (fun h=>?_)|refine qIf_split (fun h=>?_) (fun h=>?_))<;>(try simp only [h])<;>(try simp only [bitvec_to_nat] at h)<;>(try simp only [h])<;>(first|(exfalso;omega)|(focus (exfalso;simp_all;done))|(simp (disch:=omega) only [push_cast,seval,zcT1,zcT2,hn,hb])|skip))
 | ((first|refine callD_of false ?_|refine qcallD_of false ?_);simp (disch:=omega) only [push_cast,seval,zcT1,zcT2,hn,hb])
 | ((first|((first|refine call0D (iConM_ok _ _ _ _ _ _ _ _ ?_ ?_) ?_|refine qcall0D (iConM_ok _ _ _ _ _ _ _ _ ?_ ?_) ⟨_,_,rfl,rfl⟩ ?_);(iterate 2 (exact sd));rintro _ _ ⟨rfl,rfl⟩))<;>(try simp (disch:=omega) only [push_cast,seval,zcT1,zcT2,hn,hb]))
 | (refine awp_ret ⟨.inr rfl,[208,209],[],_,by decide,rfl,?_⟩;(try simp (disch:=omega) only [push_cast,seval,↓allMem_nil,↓allMem_cons,↓List.map_cons,↓List.map_nil,zcT1,zcT2,hn,hb]))))
  all_goals exact ⟨rfl,rfl⟩


theorem sConT_ok (a1 a2:List Int) (n1 n2:Nat) (hn:a1.length=n1 ∧ a2.length=n2) (hb:n1 ≤ 1099511627776 ∧ n2 ≤ 1099511627776) :
    BCall Try.prog 14 [.rows false [.rows false (IL a1) n1,.rows false (IL a2) n2] 1,.rows false [.rows false [.int .i64 0,.int .i64 0] 2] 1,.rows false [] 0] [] (OTn (trT (a1,a2))):=by
  obtain ⟨rfl,rfl⟩:=hn
  exact sCon_ok [(a1,a2)] [[0,0]] [] 1 1 0 rfl rfl rfl ⟨by omega,by simp;omega,by simp⟩


def OTr (o:Option Tn):AV:=.tup [.int .i64 ((t0 o).2.getD 0 0),.bool o.isSome]


set_option maxHeartbeats 8000000 in
theorem sTr_ok (a1 a2:List Int) (n1 n2:Nat) (hn:a1.length=n1 ∧ a2.length=n2) (hb:n1 ≤ 1099511627776 ∧ n2 ≤ 1099511627776) :
    PCall Try.prog 34 [.agg [.rows false (IL a1) n1,.rows false (IL a2) n2]] (fun r=>r=OTr (trT (a1,a2))):=by
  refine pcall_of l34_eq rfl ?_
  cases hv:trT (a1,a2) with
  | none =>
    (repeat' (first
 | (first|refine awp_seq ?_|refine awp_block ?_)
 | ((first|refine awp_reg ?_|refine awp_condB ?_|refine awp_skip ?_|refine awp_exit ?_);simp (disch:=omega) only [push_cast,seval,l34r0,l34r1,l34r2,l34r3,l34r4,zcT1,zcT2,hn,hb,hv,t0,OTr,Option.isSome_none])
 | ((first|refine condB_split (fun h=>?_) (fun h=>?_)|refine gIf_split (fun h=>?_) (fun h=>?_)|refine qIf_split (fun h=>?_) (fun h=>?_))<;>(try simp only [h])<;>(try simp only [bitvec_to_nat] at h)<;>(try simp only [h])<;>(first|(exfalso;omega)|(focus (exfalso;simp_all;done))|(simp (disch:=omega) only [push_cast,seval,zcT1,zcT2,hn,hb,hv,t0,OTr,Option.isSome_none])|skip))
 | ((first|refine callD_of false ?_|refine qcallD_of false ?_);simp (disch:=omega) only [push_cast,seval,zcT1,zcT2,hn,hb,hv,t0,OTr,Option.isSome_none])
 | ((first|((first|refine call0D (sConT_ok _ _ _ _ ?_ ?_) ?_|refine qcall0D (sConT_ok _ _ _ _ ?_ ?_) ⟨_,_,rfl,rfl⟩ ?_);(iterate 2 (exact sd));rintro _ _ ⟨rfl,rfl⟩))<;>(try simp (disch:=omega) only [push_cast,seval,zcT1,zcT2,hn,hb,hv,t0,OTr,Option.isSome_none]))
 | (refine awp_ret ⟨.inr rfl,_,rfl,?_⟩;(try simp (disch:=omega) only [push_cast,seval,zcT1,zcT2,hn,hb,hv,t0,OTr,Option.isSome_none]))))
    all_goals rfl
  | some t =>
    obtain ⟨x,hx⟩:=trT_one hv
    have h1:(t0 (some t)).2=[x]:=hx
    (repeat' (first
 | (first|refine awp_seq ?_|refine awp_block ?_)
 | ((first|refine awp_reg ?_|refine awp_condB ?_|refine awp_skip ?_|refine awp_exit ?_);simp (disch:=omega) only [push_cast,seval,l34r0,l34r1,l34r2,l34r3,l34r4,zcT1,zcT2,hn,hb,hv,h1,hx,t0,OTr,Option.isSome_some])
 | ((first|refine condB_split (fun h=>?_) (fun h=>?_)|refine gIf_split (fun h=>?_) (fun h=>?_)|refine qIf_split (fun h=>?_) (fun h=>?_))<;>(try simp only [h])<;>(try simp only [bitvec_to_nat] at h)<;>(try simp only [h])<;>(first|(exfalso;omega)|(focus (exfalso;simp_all;done))|(simp (disch:=omega) only [push_cast,seval,zcT1,zcT2,hn,hb,hv,h1,hx,t0,OTr,Option.isSome_some])|skip))
 | ((first|refine callD_of false ?_|refine qcallD_of false ?_);simp (disch:=omega) only [push_cast,seval,zcT1,zcT2,hn,hb,hv,h1,hx,t0,OTr,Option.isSome_some])
 | ((first|((first|refine call0D (sConT_ok _ _ _ _ ?_ ?_) ?_|refine qcall0D (sConT_ok _ _ _ _ ?_ ?_) ⟨_,_,rfl,rfl⟩ ?_);(iterate 2 (exact sd));rintro _ _ ⟨rfl,rfl⟩))<;>(try simp (disch:=omega) only [push_cast,seval,zcT1,zcT2,hn,hb,hv,h1,hx,t0,OTr,Option.isSome_some]))
 | (refine awp_ret ⟨.inr rfl,_,rfl,?_⟩;(try simp (disch:=omega) only [push_cast,seval,zcT1,zcT2,hn,hb,hv,h1,hx,t0,OTr,Option.isSome_some]))))
    all_goals rfl


theorem iConT_ok (a1 a2:List Int) (n1 n2:Nat) (hn:a1.length=n1 ∧ a2.length=n2) (hb:n1 ≤ 1099511627776 ∧ n2 ≤ 1099511627776) :
    BCall Try.prog 18 [.rows false [.rows false (IL a1) n1,.rows false (IL a2) n2] 1,.rows false [.rows false [.int .i64 0,.int .i64 0] 2] 1,.rows false [] 0] [] (OTn (trT (a1,a2))):=by
  obtain ⟨rfl,rfl⟩:=hn
  exact iCon_ok [(a1,a2)] [[0,0]] [] 1 1 0 rfl rfl rfl ⟨by omega,by simp;omega,by simp⟩


set_option maxHeartbeats 8000000 in
theorem iTr_ok (a1 a2:List Int) (n1 n2:Nat) (hn:a1.length=n1 ∧ a2.length=n2) (hb:n1 ≤ 1099511627776 ∧ n2 ≤ 1099511627776) :
    PCall Try.prog 35 [.agg [.rows false (IL a1) n1,.rows false (IL a2) n2]] (fun r=>r=OTr (trT (a1,a2))):=by
  refine pcall_of l35_eq rfl ?_
  cases hv:trT (a1,a2) with
  | none =>
    (repeat' (first
 | (first|refine awp_seq ?_|refine awp_block ?_)
 | ((first|refine awp_reg ?_|refine awp_condB ?_|refine awp_skip ?_|refine awp_exit ?_);simp (disch:=omega) only [push_cast,seval,l35r0,l35r1,l35r2,l35r3,l35r4,zcT1,zcT2,hn,hb,hv,t0,OTr,Option.isSome_none])
 | ((first|refine condB_split (fun h=>?_) (fun h=>?_)|refine gIf_split (fun h=>?_) (fun h=>?_)|refine qIf_split (fun h=>?_) (fun h=>?_))<;>(try simp only [h])<;>(try simp only [bitvec_to_nat] at h)<;>(try simp only [h])<;>(first|(exfalso;omega)|(focus (exfalso;simp_all;done))|(simp (disch:=omega) only [push_cast,seval,zcT1,zcT2,hn,hb,hv,t0,OTr,Option.isSome_none])|skip))
 | ((first|refine callD_of false ?_|refine qcallD_of false ?_);simp (disch:=omega) only [push_cast,seval,zcT1,zcT2,hn,hb,hv,t0,OTr,Option.isSome_none])
 | ((first|((first|refine call0D (iConT_ok _ _ _ _ ?_ ?_) ?_|refine qcall0D (iConT_ok _ _ _ _ ?_ ?_) ⟨_,_,rfl,rfl⟩ ?_);(iterate 2 (exact sd));rintro _ _ ⟨rfl,rfl⟩))<;>(try simp (disch:=omega) only [push_cast,seval,zcT1,zcT2,hn,hb,hv,t0,OTr,Option.isSome_none]))
 | (refine awp_ret ⟨.inr rfl,_,rfl,?_⟩;(try simp (disch:=omega) only [push_cast,seval,zcT1,zcT2,hn,hb,hv,t0,OTr,Option.isSome_none]))))
    all_goals rfl
  | some t =>
    obtain ⟨x,hx⟩:=trT_one hv
    have h1:(t0 (some t)).2=[x]:=hx
    (repeat' (first
 | (first|refine awp_seq ?_|refine awp_block ?_)
 | ((first|refine awp_reg ?_|refine awp_condB ?_|refine awp_skip ?_|refine awp_exit ?_);simp (disch:=omega) only [push_cast,seval,l35r0,l35r1,l35r2,l35r3,l35r4,zcT1,zcT2,hn,hb,hv,h1,hx,t0,OTr,Option.isSome_some])
 | ((first|refine condB_split (fun h=>?_) (fun h=>?_)|refine gIf_split (fun h=>?_) (fun h=>?_)|refine qIf_split (fun h=>?_) (fun h=>?_))<;>(try simp only [h])<;>(try simp only [bitvec_to_nat] at h)<;>(try simp only [h])<;>(first|(exfalso;omega)|(focus (exfalso;simp_all;done))|(simp (disch:=omega) only [push_cast,seval,zcT1,zcT2,hn,hb,hv,h1,hx,t0,OTr,Option.isSome_some])|skip))
 | ((first|refine callD_of false ?_|refine qcallD_of false ?_);simp (disch:=omega) only [push_cast,seval,zcT1,zcT2,hn,hb,hv,h1,hx,t0,OTr,Option.isSome_some])
 | ((first|((first|refine call0D (iConT_ok _ _ _ _ ?_ ?_) ?_|refine qcall0D (iConT_ok _ _ _ _ ?_ ?_) ⟨_,_,rfl,rfl⟩ ?_);(iterate 2 (exact sd));rintro _ _ ⟨rfl,rfl⟩))<;>(try simp (disch:=omega) only [push_cast,seval,zcT1,zcT2,hn,hb,hv,h1,hx,t0,OTr,Option.isSome_some]))
 | (refine awp_ret ⟨.inr rfl,_,rfl,?_⟩;(try simp (disch:=omega) only [push_cast,seval,zcT1,zcT2,hn,hb,hv,h1,hx,t0,OTr,Option.isSome_some]))))
    all_goals rfl

end Go.Proofs.Ytfkbhkpbfnklaaa
