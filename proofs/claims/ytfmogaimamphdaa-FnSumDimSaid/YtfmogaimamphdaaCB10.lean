/- Texts of this verifier. -/
import Derived.Test.YtfmogaimamphdaaCB9
import Derived.Test.YtfmogaimamphdaaCM1
import Derived.Test.YtfmogaimamphdaaCW3
set_option linter.unusedSimpArgs false
set_option linter.unusedVariables false
set_option maxRecDepth 4000
set_option maxHeartbeats 4000000
namespace Go.Proofs.Ytfmogaimamphdaa
open VwM Vw Go

/-- The product of two matrices,the trace of one: contractions with labels that are written down. -/
abbrev mmT (a b:Tn):Option Tn:=ctT [a,b] [[0,1],[1,2]] [0,2]
abbrev trT (t:Tn):Option Tn:=ctT [t] [[0,0]] []
abbrev bTn (t:Tn):Prop:=t.1.length ≤ 1099511627776 ∧ t.2.length ≤ 1099511627776
theorem ctT_vT {ts:List Tn} {ls:List (List Int)} {out:List Int} {t:Tn} (h:ctT ts ls out=some t):vT t=true:=by
  unfold ctT at h
  cases he:exO ts ls with
  | none=>rw [he] at h;cases h
  | some e =>
    rw [he] at h
    simp only [Option.bind_some] at h
    split at h
    · rename_i hc
      injection h with h
      rw [Bool.and_eq_true] at hc
      rw [← h];exact hc.2
    · cases h
theorem trT_one {t v:Tn} (h:trT t=some v):∃ x,v.2=[x]:=by
  have h2:=h
  unfold trT ctT at h
  cases he:exO [t] [[0,0]] with
  | none=>rw [he] at h;cases h
  | some e =>
    rw [he] at h
    simp only [Option.bind_some] at h
    split at h
    · injection h with h
      have h3:=(Bnz.1 (ctT_vT h2)).2.1
      have h4:v.1=[]:=by rw [← h];rfl
      rw [h4] at h3
      have h5:v.2.length=1:=by have:pr ([]:List Int)=1:=rfl;omega
      match hv:v.2,h5 with
 | [x],_=>exact ⟨x,rfl⟩
    · cases h
theorem zcT1 (z:AV):zcells [z] 2=[z,z]:=by simp [zcells,List.range_succ]
theorem zcT2 (x y:AV):zcells [x,y] 2=[x,y,x,y]:=by simp [zcells,List.range_succ]


theorem sConM_ok (a1 a2 b1 b2:List Int) (n1 n2 m1 m2:Nat) (hn:(a1.length=n1 ∧ a2.length=n2) ∧ b1.length=m1 ∧ b2.length=m2) (hb:(n1 ≤ 1099511627776 ∧ n2 ≤ 1099511627776) ∧ m1 ≤ 1099511627776 ∧ m2 ≤ 1099511627776) :
    BCall Try.prog 27 [.rows false [.rows false (IL a1) n1,.rows false (IL a2) n2,.rows false (IL b1) m1,.rows false (IL b2) m2] 2,.rows false [.rows false [.int .i64 0,.int .i64 1] 2,.rows false [.int .i64 1,.int .i64 2] 2] 2,.rows false [.int .i64 0,.int .i64 2] 2] [] (OTn (mmT (a1,a2) (b1,b2))):=by
  obtain ⟨⟨rfl,rfl⟩,rfl,rfl⟩:=hn
  exact sCon_ok [(a1,a2),(b1,b2)] [[0,1],[1,2]] [0,2] 2 2 2 rfl rfl rfl ⟨by omega,by simp;omega,by simp⟩


set_option maxHeartbeats 8000000 in
theorem sMM_ok (a1 a2 b1 b2:List Int) (n1 n2 m1 m2:Nat) (hn:(a1.length=n1 ∧ a2.length=n2) ∧ b1.length=m1 ∧ b2.length=m2) (hb:(n1 ≤ 1099511627776 ∧ n2 ≤ 1099511627776) ∧ m1 ≤ 1099511627776 ∧ m2 ≤ 1099511627776) :
    BCall Try.prog 9 [.agg [.rows false (IL a1) n1,.rows false (IL a2) n2],.agg [.rows false (IL b1) m1,.rows false (IL b2) m2]] [] (OTn (mmT (a1,a2) (b1,b2))):=by
  refine A1z (pins:=[]) (pin:=0) l9_eq rfl rfl rfl ?_
  (repeat' (first
 | (first|refine Alz ?_|refine Aez ?_)
 | ((first|refine Amz ?_|refine Adz ?_|refine Agz ?_|refine Ahz ?_);simp (disch:=omega) only [push_cast,seval,l9r0,l9r1,zcT1,zcT2,hn,hb])
 | ((first|refine Aaz ?_ ?_|refine Acz ?_ ?_|refine Abz ?_ ?_)<;>intro h<;>(try simp only [h])<;>(try simp only [bitvec_to_nat] at h)<;>(try simp only [h])<;>(first|(exfalso;omega)|(exfalso;simp_all;done)|(simp (disch:=omega) only [push_cast,seval,zcT1,zcT2,hn,hb])|skip))
 | ((first|refine Aqz false ?_|refine qcallD_of false ?_);simp (disch:=omega) only [push_cast,seval,zcT1,zcT2,hn,hb])
 | ((first|((first|refine call0D (sConM_ok _ _ _ _ _ _ _ _ ?_ ?_) ?_|refine qcall0D (sConM_ok _ _ _ _ _ _ _ _ ?_ ?_) ⟨_,_,rfl,rfl⟩ ?_);(iterate 2 (exact sd));rintro _ _ ⟨rfl,rfl⟩))<;>(try simp (disch:=omega) only [push_cast,seval,zcT1,zcT2,hn,hb]))
 | (refine Aiz ⟨.inr rfl,[208,209],[],_,by decide,rfl,?_⟩;(try simp (disch:=omega) only [push_cast,seval,↓Anz,↓Ajz,↓List.map_cons,↓List.map_nil,zcT1,zcT2,hn,hb]))))
  all_goals exact ⟨rfl,rfl⟩


theorem iConM_ok (a1 a2 b1 b2:List Int) (n1 n2 m1 m2:Nat) (hn:(a1.length=n1 ∧ a2.length=n2) ∧ b1.length=m1 ∧ b2.length=m2) (hb:(n1 ≤ 1099511627776 ∧ n2 ≤ 1099511627776) ∧ m1 ≤ 1099511627776 ∧ m2 ≤ 1099511627776) :
    BCall Try.prog 26 [.rows false [.rows false (IL a1) n1,.rows false (IL a2) n2,.rows false (IL b1) m1,.rows false (IL b2) m2] 2,.rows false [.rows false [.int .i64 0,.int .i64 1] 2,.rows false [.int .i64 1,.int .i64 2] 2] 2,.rows false [.int .i64 0,.int .i64 2] 2] [] (OTn (mmT (a1,a2) (b1,b2))):=by
  obtain ⟨⟨rfl,rfl⟩,rfl,rfl⟩:=hn
  exact iCon_ok [(a1,a2),(b1,b2)] [[0,1],[1,2]] [0,2] 2 2 2 rfl rfl rfl ⟨by omega,by simp;omega,by simp⟩


set_option maxHeartbeats 8000000 in
theorem iMM_ok (a1 a2 b1 b2:List Int) (n1 n2 m1 m2:Nat) (hn:(a1.length=n1 ∧ a2.length=n2) ∧ b1.length=m1 ∧ b2.length=m2) (hb:(n1 ≤ 1099511627776 ∧ n2 ≤ 1099511627776) ∧ m1 ≤ 1099511627776 ∧ m2 ≤ 1099511627776) :
    BCall Try.prog 8 [.agg [.rows false (IL a1) n1,.rows false (IL a2) n2],.agg [.rows false (IL b1) m1,.rows false (IL b2) m2]] [] (OTn (mmT (a1,a2) (b1,b2))):=by
  refine A1z (pins:=[]) (pin:=0) l8_eq rfl rfl rfl ?_
  (repeat' (first
 | (first|refine Alz ?_|refine Aez ?_)
 | ((first|refine Amz ?_|refine Adz ?_|refine Agz ?_|refine Ahz ?_);simp (disch:=omega) only [push_cast,seval,l8r0,l8r1,zcT1,zcT2,hn,hb])
 | ((first|refine Aaz ?_ ?_|refine Acz ?_ ?_|refine Abz ?_ ?_)<;>intro h<;>(try simp only [h])<;>(try simp only [bitvec_to_nat] at h)<;>(try simp only [h])<;>(first|(exfalso;omega)|(exfalso;simp_all;done)|(simp (disch:=omega) only [push_cast,seval,zcT1,zcT2,hn,hb])|skip))
 | ((first|refine Aqz false ?_|refine qcallD_of false ?_);simp (disch:=omega) only [push_cast,seval,zcT1,zcT2,hn,hb])
 | ((first|((first|refine call0D (iConM_ok _ _ _ _ _ _ _ _ ?_ ?_) ?_|refine qcall0D (iConM_ok _ _ _ _ _ _ _ _ ?_ ?_) ⟨_,_,rfl,rfl⟩ ?_);(iterate 2 (exact sd));rintro _ _ ⟨rfl,rfl⟩))<;>(try simp (disch:=omega) only [push_cast,seval,zcT1,zcT2,hn,hb]))
 | (refine Aiz ⟨.inr rfl,[208,209],[],_,by decide,rfl,?_⟩;(try simp (disch:=omega) only [push_cast,seval,↓Anz,↓Ajz,↓List.map_cons,↓List.map_nil,zcT1,zcT2,hn,hb]))))
  all_goals exact ⟨rfl,rfl⟩


theorem Grz (a1 a2:List Int) (n1 n2:Nat) (hn:a1.length=n1 ∧ a2.length=n2) (hb:n1 ≤ 1099511627776 ∧ n2 ≤ 1099511627776) :
    BCall Try.prog 27 [.rows false [.rows false (IL a1) n1,.rows false (IL a2) n2] 1,.rows false [.rows false [.int .i64 0,.int .i64 0] 2] 1,.rows false [] 0] [] (OTn (trT (a1,a2))):=by
  obtain ⟨rfl,rfl⟩:=hn
  exact sCon_ok [(a1,a2)] [[0,0]] [] 1 1 0 rfl rfl rfl ⟨by omega,by simp;omega,by simp⟩


def OTr (o:Option Tn):AV:=.tup [.int .i64 ((t0 o).2.getD 0 0),.bool o.isSome]


set_option maxHeartbeats 8000000 in
theorem sTr_ok (a1 a2:List Int) (n1 n2:Nat) (hn:a1.length=n1 ∧ a2.length=n2) (hb:n1 ≤ 1099511627776 ∧ n2 ≤ 1099511627776) :
    PCall Try.prog 14 [.agg [.rows false (IL a1) n1,.rows false (IL a2) n2]] (fun r=>r=OTr (trT (a1,a2))):=by
  refine Ayz l14_eq rfl ?_
  cases hv:trT (a1,a2) with
  | none =>
    (repeat' (first
 | (first|refine Alz ?_|refine Aez ?_)
 | ((first|refine Amz ?_|refine Adz ?_|refine Agz ?_|refine Ahz ?_);simp (disch:=omega) only [push_cast,seval,l14r0,l14r1,l14r2,l14r3,l14r4,zcT1,zcT2,hn,hb,hv,t0,OTr,Option.isSome_none])
 | ((first|refine Aaz ?_ ?_|refine Acz ?_ ?_|refine Abz ?_ ?_)<;>intro h<;>(try simp only [h])<;>(try simp only [bitvec_to_nat] at h)<;>(try simp only [h])<;>(first|(exfalso;omega)|(exfalso;simp_all;done)|(simp (disch:=omega) only [push_cast,seval,zcT1,zcT2,hn,hb,hv,t0,OTr,Option.isSome_none])|skip))
 | ((first|refine Aqz false ?_|refine qcallD_of false ?_);simp (disch:=omega) only [push_cast,seval,zcT1,zcT2,hn,hb,hv,t0,OTr,Option.isSome_none])
 | ((first|((first|refine call0D (Grz _ _ _ _ ?_ ?_) ?_|refine qcall0D (Grz _ _ _ _ ?_ ?_) ⟨_,_,rfl,rfl⟩ ?_);(iterate 2 (exact sd));rintro _ _ ⟨rfl,rfl⟩))<;>(try simp (disch:=omega) only [push_cast,seval,zcT1,zcT2,hn,hb,hv,t0,OTr,Option.isSome_none]))
 | (refine Aiz ⟨.inr rfl,_,rfl,?_⟩;(try simp (disch:=omega) only [push_cast,seval,zcT1,zcT2,hn,hb,hv,t0,OTr,Option.isSome_none]))))
    all_goals rfl
  | some t =>
    obtain ⟨x,hx⟩:=trT_one hv
    have h1:(t0 (some t)).2=[x]:=hx
    (repeat' (first
 | (first|refine Alz ?_|refine Aez ?_)
 | ((first|refine Amz ?_|refine Adz ?_|refine Agz ?_|refine Ahz ?_);simp (disch:=omega) only [push_cast,seval,l14r0,l14r1,l14r2,l14r3,l14r4,zcT1,zcT2,hn,hb,hv,h1,hx,t0,OTr,Option.isSome_some])
 | ((first|refine Aaz ?_ ?_|refine Acz ?_ ?_|refine Abz ?_ ?_)<;>intro h<;>(try simp only [h])<;>(try simp only [bitvec_to_nat] at h)<;>(try simp only [h])<;>(first|(exfalso;omega)|(exfalso;simp_all;done)|(simp (disch:=omega) only [push_cast,seval,zcT1,zcT2,hn,hb,hv,h1,hx,t0,OTr,Option.isSome_some])|skip))
 | ((first|refine Aqz false ?_|refine qcallD_of false ?_);simp (disch:=omega) only [push_cast,seval,zcT1,zcT2,hn,hb,hv,h1,hx,t0,OTr,Option.isSome_some])
 | ((first|((first|refine call0D (Grz _ _ _ _ ?_ ?_) ?_|refine qcall0D (Grz _ _ _ _ ?_ ?_) ⟨_,_,rfl,rfl⟩ ?_);(iterate 2 (exact sd));rintro _ _ ⟨rfl,rfl⟩))<;>(try simp (disch:=omega) only [push_cast,seval,zcT1,zcT2,hn,hb,hv,h1,hx,t0,OTr,Option.isSome_some]))
 | (refine Aiz ⟨.inr rfl,_,rfl,?_⟩;(try simp (disch:=omega) only [push_cast,seval,zcT1,zcT2,hn,hb,hv,h1,hx,t0,OTr,Option.isSome_some]))))
    all_goals rfl


theorem Gvz (a1 a2:List Int) (n1 n2:Nat) (hn:a1.length=n1 ∧ a2.length=n2) (hb:n1 ≤ 1099511627776 ∧ n2 ≤ 1099511627776) :
    BCall Try.prog 26 [.rows false [.rows false (IL a1) n1,.rows false (IL a2) n2] 1,.rows false [.rows false [.int .i64 0,.int .i64 0] 2] 1,.rows false [] 0] [] (OTn (trT (a1,a2))):=by
  obtain ⟨rfl,rfl⟩:=hn
  exact iCon_ok [(a1,a2)] [[0,0]] [] 1 1 0 rfl rfl rfl ⟨by omega,by simp;omega,by simp⟩


set_option maxHeartbeats 8000000 in
theorem iTr_ok (a1 a2:List Int) (n1 n2:Nat) (hn:a1.length=n1 ∧ a2.length=n2) (hb:n1 ≤ 1099511627776 ∧ n2 ≤ 1099511627776) :
    PCall Try.prog 13 [.agg [.rows false (IL a1) n1,.rows false (IL a2) n2]] (fun r=>r=OTr (trT (a1,a2))):=by
  refine Ayz l13_eq rfl ?_
  cases hv:trT (a1,a2) with
  | none =>
    (repeat' (first
 | (first|refine Alz ?_|refine Aez ?_)
 | ((first|refine Amz ?_|refine Adz ?_|refine Agz ?_|refine Ahz ?_);simp (disch:=omega) only [push_cast,seval,l13r0,l13r1,l13r2,l13r3,l13r4,zcT1,zcT2,hn,hb,hv,t0,OTr,Option.isSome_none])
 | ((first|refine Aaz ?_ ?_|refine Acz ?_ ?_|refine Abz ?_ ?_)<;>intro h<;>(try simp only [h])<;>(try simp only [bitvec_to_nat] at h)<;>(try simp only [h])<;>(first|(exfalso;omega)|(exfalso;simp_all;done)|(simp (disch:=omega) only [push_cast,seval,zcT1,zcT2,hn,hb,hv,t0,OTr,Option.isSome_none])|skip))
 | ((first|refine Aqz false ?_|refine qcallD_of false ?_);simp (disch:=omega) only [push_cast,seval,zcT1,zcT2,hn,hb,hv,t0,OTr,Option.isSome_none])
 | ((first|((first|refine call0D (Gvz _ _ _ _ ?_ ?_) ?_|refine qcall0D (Gvz _ _ _ _ ?_ ?_) ⟨_,_,rfl,rfl⟩ ?_);(iterate 2 (exact sd));rintro _ _ ⟨rfl,rfl⟩))<;>(try simp (disch:=omega) only [push_cast,seval,zcT1,zcT2,hn,hb,hv,t0,OTr,Option.isSome_none]))
 | (refine Aiz ⟨.inr rfl,_,rfl,?_⟩;(try simp (disch:=omega) only [push_cast,seval,zcT1,zcT2,hn,hb,hv,t0,OTr,Option.isSome_none]))))
    all_goals rfl
  | some t =>
    obtain ⟨x,hx⟩:=trT_one hv
    have h1:(t0 (some t)).2=[x]:=hx
    (repeat' (first
 | (first|refine Alz ?_|refine Aez ?_)
 | ((first|refine Amz ?_|refine Adz ?_|refine Agz ?_|refine Ahz ?_);simp (disch:=omega) only [push_cast,seval,l13r0,l13r1,l13r2,l13r3,l13r4,zcT1,zcT2,hn,hb,hv,h1,hx,t0,OTr,Option.isSome_some])
 | ((first|refine Aaz ?_ ?_|refine Acz ?_ ?_|refine Abz ?_ ?_)<;>intro h<;>(try simp only [h])<;>(try simp only [bitvec_to_nat] at h)<;>(try simp only [h])<;>(first|(exfalso;omega)|(exfalso;simp_all;done)|(simp (disch:=omega) only [push_cast,seval,zcT1,zcT2,hn,hb,hv,h1,hx,t0,OTr,Option.isSome_some])|skip))
 | ((first|refine Aqz false ?_|refine qcallD_of false ?_);simp (disch:=omega) only [push_cast,seval,zcT1,zcT2,hn,hb,hv,h1,hx,t0,OTr,Option.isSome_some])
 | ((first|((first|refine call0D (Gvz _ _ _ _ ?_ ?_) ?_|refine qcall0D (Gvz _ _ _ _ ?_ ?_) ⟨_,_,rfl,rfl⟩ ?_);(iterate 2 (exact sd));rintro _ _ ⟨rfl,rfl⟩))<;>(try simp (disch:=omega) only [push_cast,seval,zcT1,zcT2,hn,hb,hv,h1,hx,t0,OTr,Option.isSome_some]))
 | (refine Aiz ⟨.inr rfl,_,rfl,?_⟩;(try simp (disch:=omega) only [push_cast,seval,zcT1,zcT2,hn,hb,hv,h1,hx,t0,OTr,Option.isSome_some]))))
    all_goals rfl

end Go.Proofs.Ytfmogaimamphdaa
set_option linter.unusedSimpArgs false
set_option linter.unusedVariables false
set_option maxRecDepth 4000
set_option maxHeartbeats 4000000
namespace Go.Proofs.Ytfmogaimamphdaa
open VwM Vw Go

def sdT (t:Tn) (d:Int):Option Tn:=if vT t=true ∧ 0 ≤ d ∧ d < t.1.length then ctT [t] [nums 0 1 t.1.length] (wo (nums 0 1 t.1.length) d.toNat) else none
theorem wiL_wo:∀ n:Nat,n < 5 → ∀ k:Nat,k < n → wiL (nums 0 1 n) [(k:Int)]=wo (nums 0 1 n) k:=by decide
theorem numU_v:∀ n:Nat,n < 5 → vR (pS 0 n) (pE 0 1 n) (pC 1 n)=true ∧ nums (pS 0 n) (pC 1 n) (cntN (pS 0 n) (pE 0 1 n) (pC 1 n))=nums 0 1 n:=by decide
theorem Jbz (a c:Int) (n:Nat):(nums a c n).length=n:=by simp [nums]


theorem inumU_ok (n:Nat) (hb:n ≤ 4):BCall Try.prog 30 [rng (pS 0 n) (pE 0 1 n) (pC 1 n)] [] (OI (nums 0 1 n)):=by
  have h:=numU_v n (by omega)
  have h2:=inumbers_ok _ _ _ h.1
  rw [h.2] at h2
  exact h2


theorem iCon1_ok (a1 a2 l out:List Int) (n1 n2 m q:Nat) (hn:(a1.length=n1 ∧ a2.length=n2) ∧ l.length=m ∧ out.length=q) (hb:(n1 ≤ 1099511627776 ∧ n2 ≤ 1099511627776) ∧ m ≤ 1099511627776 ∧ q ≤ 1048576) :
    BCall Try.prog 26 [.rows false [.rows false (IL a1) n1,.rows false (IL a2) n2] 1,.rows false [.rows false (IL l) m] 1,.rows false (IL out) q] [] (OTn (ctT [(a1,a2)] [l] out)):=by
  obtain ⟨⟨rfl,rfl⟩,rfl,rfl⟩:=hn
  exact iCon_ok [(a1,a2)] [l] out 1 1 _ rfl rfl rfl ⟨by omega,by simp;omega,by simp;omega⟩


theorem sCon1_ok (a1 a2 l out:List Int) (n1 n2 m q:Nat) (hn:(a1.length=n1 ∧ a2.length=n2) ∧ l.length=m ∧ out.length=q) (hb:(n1 ≤ 1099511627776 ∧ n2 ≤ 1099511627776) ∧ m ≤ 1099511627776 ∧ q ≤ 1048576) :
    BCall Try.prog 27 [.rows false [.rows false (IL a1) n1,.rows false (IL a2) n2] 1,.rows false [.rows false (IL l) m] 1,.rows false (IL out) q] [] (OTn (ctT [(a1,a2)] [l] out)):=by
  obtain ⟨⟨rfl,rfl⟩,rfl,rfl⟩:=hn
  exact sCon_ok [(a1,a2)] [l] out 1 1 _ rfl rfl rfl ⟨by omega,by simp;omega,by simp;omega⟩


theorem iwo1_ok (xs:List Int) (n:Nat) (d:Int) (hn:xs.length=n) (hb:n ≤ 1099511627776):BCall Try.prog 36 [.rows false (IL xs) n,.rows false [.int .i64 d] 1] [] (OI (wiL xs [d])):=iwithout_ok xs [d] n 1 hn rfl ⟨hb,by omega⟩


set_option maxHeartbeats 16000000 in
theorem iSD_ok (a1 a2:List Int) (d:Int) (n1 n2:Nat) (h1:a1.length=n1) (h2:a2.length=n2) (hb:n1 ≤ 1099511627776 ∧ n2 ≤ 1099511627776) :
    BCall Try.prog 16 [.agg [.rows false (IL a1) n1,.rows false (IL a2) n2],.int .i64 d] [] (OTn (sdT (a1,a2) d)):=by
  subst h1 h2
  obtain ⟨hb1,hb2⟩:=hb
  refine A1z (pins:=[]) (pin:=0) l16_eq rfl rfl rfl ?_
  cases hv:vT (a1,a2) with
  | false =>
    have hno:sdT (a1,a2) d=none:=by unfold sdT;rw [if_neg (by rw [hv];simp)]
    rw [hno]
    (repeat' (first
 | (first|refine Alz ?_|refine Aez ?_)
 | ((first|refine Amz ?_|refine Arz (mid:=l16r4a) (post:=l16r4b) Awz (by decide) ?_|refine Adz ?_|refine Agz ?_|refine Ahz ?_);simp (disch:=omega) only [push_cast,seval,l16r0,l16r1,l16r2,l16r3,l16r4a,l16r4b,l16r4,hv])
 | ((first|refine Aaz ?_ ?_|refine Acz ?_ ?_|refine Abz ?_ ?_)<;>intro h<;>(try simp only [h])<;>(try simp only [bitvec_to_nat] at h)<;>(try simp only [h])<;>(first|(exfalso;omega)|(exfalso;simp_all;done)|(simp (disch:=omega) only [push_cast,seval,hv])|skip))
 | ((first|refine Aqz false ?_|refine qcallD_of false ?_);simp (disch:=omega) only [push_cast,seval,hv])
 | ((first|((first|refine call0D (BCall.ofP (ivT_ok _ _ _ _ ?_ ?_ ?_)) ?_|refine qcall0D (BCall.ofP (ivT_ok _ _ _ _ ?_ ?_ ?_)) ⟨_,_,rfl,rfl⟩ ?_);(iterate 3 (exact sd));rintro _ _ ⟨rfl,rfl⟩)|((first|refine call0D (BCall.ofP (upTo_ok _ _)) ?_|refine qcall0D (BCall.ofP (upTo_ok _ _)) ⟨_,_,rfl,rfl⟩ ?_);rintro _ _ ⟨rfl,rfl⟩)|((first|refine call0D (BCall.ofP (progression_ok _ _ _ ?_ ?_)) ?_|refine qcall0D (BCall.ofP (progression_ok _ _ _ ?_ ?_)) ⟨_,_,rfl,rfl⟩ ?_);(iterate 2 (exact sd));rintro _ _ ⟨rfl,rfl⟩)|((first|refine call0D (inumbers_ok _ _ _ ?_) ?_|refine qcall0D (inumbers_ok _ _ _ ?_) ⟨_,_,rfl,rfl⟩ ?_);(exact sd);rintro _ _ ⟨rfl,rfl⟩)|((first|refine call0D (inumU_ok _ ?_) ?_|refine qcall0D (inumU_ok _ ?_) ⟨_,_,rfl,rfl⟩ ?_);(exact sd);rintro _ _ ⟨rfl,rfl⟩)|((first|refine call0D (iwo1_ok _ _ _ ?_ ?_) ?_|refine qcall0D (iwo1_ok _ _ _ ?_ ?_) ⟨_,_,rfl,rfl⟩ ?_);(iterate 2 (exact sd));rintro _ _ ⟨rfl,rfl⟩)|((first|refine call0D (iCon1_ok _ _ _ _ _ _ _ _ ?_ ?_) ?_|refine qcall0D (iCon1_ok _ _ _ _ _ _ _ _ ?_ ?_) ⟨_,_,rfl,rfl⟩ ?_);(iterate 2 (exact sd));rintro _ _ ⟨rfl,rfl⟩))<;>(try simp (disch:=omega) only [push_cast,seval,hv]))
 | (refine Aiz ⟨.inr rfl,[16000,16016],[(16000,1),(16016,1)],_,by decide,rfl,?_⟩;(try simp (disch:=omega) only [push_cast,seval,↓Anz,↓Ajz,↓List.map_cons,↓List.map_nil,hv]))))
    all_goals exact ⟨rfl,rfl⟩
  | true =>
    have h4:a1.length ≤ 4:=(A3z (Bnz.1 hv).1).1.2
    by_cases hd:0 ≤ d ∧ d < a1.length
    · obtain ⟨k,rfl⟩:∃ k:Nat,d=k:=⟨d.toNat,by omega⟩
      have hk:k < a1.length:=by omega
      have hyes:sdT (a1,a2) k=ctT [(a1,a2)] [nums 0 1 a1.length] (wo (nums 0 1 a1.length) k):=by unfold sdT;rw [if_pos ⟨hv,hd⟩,Int.toNat_natCast]
      rw [hyes,← wiL_wo _ (by omega) k hk]
      have hN:=Jbz 0 1 a1.length
      have hW:(wiL (nums 0 1 a1.length) [(k:Int)]).length ≤ 4:=by rw [wiL_wo _ (by omega) k hk];simp [wo];omega
      generalize hNN:nums 0 1 a1.length=N at *
      generalize hWW:wiL N [(k:Int)]=W at *
      have hP:(1:Int) ≤ a1.length → -1000000 ≤ ((a1.length:Int) - 1) * 1 ∧ ((a1.length:Int) - 1) * 1 ≤ 1000000:=fun _=>by omega
      have q1:(-100000:Int) ≤ 0 ∧ (0:Int) ≤ 100000 ∧ (-100000:Int) ≤ 1 ∧ (1:Int) ≤ 100000 ∧ (-1000:Int) ≤ a1.length ∧ (a1.length:Int) ≤ 1000:=by omega
      (repeat' (first
 | (first|refine Alz ?_|refine Aez ?_)
 | ((first|refine Amz ?_|refine Bez (mid:=l16r4a) (post:=l16r4b) [] Awz (by decide) ?_|refine Adz ?_|refine Agz ?_|refine Ahz ?_);simp (disch:=omega) only [push_cast,seval,l16r0,l16r1,l16r2,l16r3,l16r4a,l16r4b,l16r4,hv,hNN,hWW,hN])
 | ((first|refine Aaz ?_ ?_|refine Acz ?_ ?_|refine Abz ?_ ?_)<;>intro h<;>(try simp only [h])<;>(try simp only [bitvec_to_nat] at h)<;>(try simp only [h])<;>(first|(exfalso;omega)|(exfalso;simp_all;done)|(simp (disch:=omega) only [push_cast,seval,hv,hNN,hWW,hN])|skip))
 | ((first|refine Aqz false ?_|refine qcallD_of false ?_);simp (disch:=omega) only [push_cast,seval,hv,hNN,hWW,hN])
 | ((first|((first|refine call0D (BCall.ofP (ivT_ok _ _ _ _ ?_ ?_ ?_)) ?_|refine qcall0D (BCall.ofP (ivT_ok _ _ _ _ ?_ ?_ ?_)) ⟨_,_,rfl,rfl⟩ ?_);(iterate 3 (exact sd));rintro _ _ ⟨rfl,rfl⟩)|((first|refine call0D (BCall.ofP (upTo_ok _ _)) ?_|refine qcall0D (BCall.ofP (upTo_ok _ _)) ⟨_,_,rfl,rfl⟩ ?_);rintro _ _ ⟨rfl,rfl⟩)|((first|refine call0D (BCall.ofP (progression_ok _ _ _ ?_ ?_)) ?_|refine qcall0D (BCall.ofP (progression_ok _ _ _ ?_ ?_)) ⟨_,_,rfl,rfl⟩ ?_);(iterate 2 (exact sd));rintro _ _ ⟨rfl,rfl⟩)|((first|refine call0D (inumbers_ok _ _ _ ?_) ?_|refine qcall0D (inumbers_ok _ _ _ ?_) ⟨_,_,rfl,rfl⟩ ?_);(exact sd);rintro _ _ ⟨rfl,rfl⟩)|((first|refine call0D (inumU_ok _ ?_) ?_|refine qcall0D (inumU_ok _ ?_) ⟨_,_,rfl,rfl⟩ ?_);(exact sd);rintro _ _ ⟨rfl,rfl⟩)|((first|refine call0D (iwo1_ok _ _ _ ?_ ?_) ?_|refine qcall0D (BCall.ofP (plainI (iwo1_ok _ _ _ ?_ ?_))) ⟨_,_,rfl,rfl⟩ ?_);(iterate 2 (exact sd));rintro _ _ ⟨rfl,rfl⟩)|((first|refine call0D (iCon1_ok _ _ _ _ _ _ _ _ ?_ ?_) ?_|refine qcall0D (iCon1_ok _ _ _ _ _ _ _ _ ?_ ?_) ⟨_,_,rfl,rfl⟩ ?_);(iterate 2 (exact sd));rintro _ _ ⟨rfl,rfl⟩))<;>(try simp (disch:=omega) only [push_cast,seval,hv,hNN,hWW,hN]))
 | (refine Aiz ⟨.inr rfl,[528,529],[],_,by decide,rfl,?_⟩;(try simp (disch:=omega) only [push_cast,seval,↓Anz,↓Ajz,↓List.map_cons,↓List.map_nil,hv,hNN,hWW,hN]))))
      all_goals exact ⟨rfl,rfl⟩
    · have hno:sdT (a1,a2) d=none:=by unfold sdT;rw [if_neg (fun h=>hd h.2)]
      rw [hno]
      by_cases h0:0 ≤ d
      · (repeat' (first
 | (first|refine Alz ?_|refine Aez ?_)
 | ((first|refine Amz ?_|refine Arz (mid:=l16r4a) (post:=l16r4b) Awz (by decide) ?_|refine Adz ?_|refine Agz ?_|refine Ahz ?_);simp (disch:=omega) only [push_cast,seval,l16r0,l16r1,l16r2,l16r3,l16r4a,l16r4b,l16r4,hv,h0])
 | ((first|refine Aaz ?_ ?_|refine Acz ?_ ?_|refine Abz ?_ ?_)<;>intro h<;>(try simp only [h])<;>(try simp only [bitvec_to_nat] at h)<;>(try simp only [h])<;>(first|(exfalso;omega)|(exfalso;simp_all;done)|(simp (disch:=omega) only [push_cast,seval,hv,h0])|skip))
 | ((first|refine Aqz false ?_|refine qcallD_of false ?_);simp (disch:=omega) only [push_cast,seval,hv,h0])
 | ((first|((first|refine call0D (BCall.ofP (ivT_ok _ _ _ _ ?_ ?_ ?_)) ?_|refine qcall0D (BCall.ofP (ivT_ok _ _ _ _ ?_ ?_ ?_)) ⟨_,_,rfl,rfl⟩ ?_);(iterate 3 (exact sd));rintro _ _ ⟨rfl,rfl⟩)|((first|refine call0D (BCall.ofP (upTo_ok _ _)) ?_|refine qcall0D (BCall.ofP (upTo_ok _ _)) ⟨_,_,rfl,rfl⟩ ?_);rintro _ _ ⟨rfl,rfl⟩)|((first|refine call0D (BCall.ofP (progression_ok _ _ _ ?_ ?_)) ?_|refine qcall0D (BCall.ofP (progression_ok _ _ _ ?_ ?_)) ⟨_,_,rfl,rfl⟩ ?_);(iterate 2 (exact sd));rintro _ _ ⟨rfl,rfl⟩)|((first|refine call0D (inumbers_ok _ _ _ ?_) ?_|refine qcall0D (inumbers_ok _ _ _ ?_) ⟨_,_,rfl,rfl⟩ ?_);(exact sd);rintro _ _ ⟨rfl,rfl⟩)|((first|refine call0D (inumU_ok _ ?_) ?_|refine qcall0D (inumU_ok _ ?_) ⟨_,_,rfl,rfl⟩ ?_);(exact sd);rintro _ _ ⟨rfl,rfl⟩)|((first|refine call0D (iwo1_ok _ _ _ ?_ ?_) ?_|refine qcall0D (iwo1_ok _ _ _ ?_ ?_) ⟨_,_,rfl,rfl⟩ ?_);(iterate 2 (exact sd));rintro _ _ ⟨rfl,rfl⟩)|((first|refine call0D (iCon1_ok _ _ _ _ _ _ _ _ ?_ ?_) ?_|refine qcall0D (iCon1_ok _ _ _ _ _ _ _ _ ?_ ?_) ⟨_,_,rfl,rfl⟩ ?_);(iterate 2 (exact sd));rintro _ _ ⟨rfl,rfl⟩))<;>(try simp (disch:=omega) only [push_cast,seval,hv,h0]))
 | (refine Aiz ⟨.inr rfl,[16000,16016],[(16000,1),(16016,1)],_,by decide,rfl,?_⟩;(try simp (disch:=omega) only [push_cast,seval,↓Anz,↓Ajz,↓List.map_cons,↓List.map_nil,hv,h0]))))
        all_goals exact ⟨rfl,rfl⟩
      · (repeat' (first
 | (first|refine Alz ?_|refine Aez ?_)
 | ((first|refine Amz ?_|refine Arz (mid:=l16r4a) (post:=l16r4b) Awz (by decide) ?_|refine Adz ?_|refine Agz ?_|refine Ahz ?_);simp (disch:=omega) only [push_cast,seval,l16r0,l16r1,l16r2,l16r3,l16r4a,l16r4b,l16r4,hv,h0])
 | ((first|refine Aaz ?_ ?_|refine Acz ?_ ?_|refine Abz ?_ ?_)<;>intro h<;>(try simp only [h])<;>(try simp only [bitvec_to_nat] at h)<;>(try simp only [h])<;>(first|(exfalso;omega)|(exfalso;simp_all;done)|(simp (disch:=omega) only [push_cast,seval,hv,h0])|skip))
 | ((first|refine Aqz false ?_|refine qcallD_of false ?_);simp (disch:=omega) only [push_cast,seval,hv,h0])
 | ((first|((first|refine call0D (BCall.ofP (ivT_ok _ _ _ _ ?_ ?_ ?_)) ?_|refine qcall0D (BCall.ofP (ivT_ok _ _ _ _ ?_ ?_ ?_)) ⟨_,_,rfl,rfl⟩ ?_);(iterate 3 (exact sd));rintro _ _ ⟨rfl,rfl⟩)|((first|refine call0D (BCall.ofP (upTo_ok _ _)) ?_|refine qcall0D (BCall.ofP (upTo_ok _ _)) ⟨_,_,rfl,rfl⟩ ?_);rintro _ _ ⟨rfl,rfl⟩)|((first|refine call0D (BCall.ofP (progression_ok _ _ _ ?_ ?_)) ?_|refine qcall0D (BCall.ofP (progression_ok _ _ _ ?_ ?_)) ⟨_,_,rfl,rfl⟩ ?_);(iterate 2 (exact sd));rintro _ _ ⟨rfl,rfl⟩)|((first|refine call0D (inumbers_ok _ _ _ ?_) ?_|refine qcall0D (inumbers_ok _ _ _ ?_) ⟨_,_,rfl,rfl⟩ ?_);(exact sd);rintro _ _ ⟨rfl,rfl⟩)|((first|refine call0D (inumU_ok _ ?_) ?_|refine qcall0D (inumU_ok _ ?_) ⟨_,_,rfl,rfl⟩ ?_);(exact sd);rintro _ _ ⟨rfl,rfl⟩)|((first|refine call0D (iwo1_ok _ _ _ ?_ ?_) ?_|refine qcall0D (iwo1_ok _ _ _ ?_ ?_) ⟨_,_,rfl,rfl⟩ ?_);(iterate 2 (exact sd));rintro _ _ ⟨rfl,rfl⟩)|((first|refine call0D (iCon1_ok _ _ _ _ _ _ _ _ ?_ ?_) ?_|refine qcall0D (iCon1_ok _ _ _ _ _ _ _ _ ?_ ?_) ⟨_,_,rfl,rfl⟩ ?_);(iterate 2 (exact sd));rintro _ _ ⟨rfl,rfl⟩))<;>(try simp (disch:=omega) only [push_cast,seval,hv,h0]))
 | (refine Aiz ⟨.inr rfl,[16000,16016],[(16000,1),(16016,1)],_,by decide,rfl,?_⟩;(try simp (disch:=omega) only [push_cast,seval,↓Anz,↓Ajz,↓List.map_cons,↓List.map_nil,hv,h0]))))
        all_goals exact ⟨rfl,rfl⟩


set_option maxHeartbeats 16000000 in
theorem sSD_ok (a1 a2:List Int) (d:Int) (n1 n2:Nat) (h1:a1.length=n1) (h2:a2.length=n2) (hb:n1 ≤ 1099511627776 ∧ n2 ≤ 1099511627776) :
    BCall Try.prog 17 [.agg [.rows false (IL a1) n1,.rows false (IL a2) n2],.int .i64 d] [] (OTn (sdT (a1,a2) d)):=by
  subst h1 h2
  obtain ⟨hb1,hb2⟩:=hb
  refine A1z (pins:=[]) (pin:=0) l17_eq rfl rfl rfl ?_
  cases hv:vT (a1,a2) with
  | false =>
    have hno:sdT (a1,a2) d=none:=by unfold sdT;rw [if_neg (by rw [hv];simp)]
    rw [hno]
    (repeat' (first
 | (first|refine Alz ?_|refine Aez ?_)
 | ((first|refine Amz ?_|refine Arz (mid:=l17r3a) (post:=l17r3b) Awz (by decide) ?_|refine Adz ?_|refine Agz ?_|refine Ahz ?_);simp (disch:=omega) only [push_cast,seval,l17r0,l17r1,l17r2,l17r3a,l17r3b,l17r3,hv])
 | ((first|refine Aaz ?_ ?_|refine Acz ?_ ?_|refine Abz ?_ ?_)<;>intro h<;>(try simp only [h])<;>(try simp only [bitvec_to_nat] at h)<;>(try simp only [h])<;>(first|(exfalso;omega)|(exfalso;simp_all;done)|(simp (disch:=omega) only [push_cast,seval,hv])|skip))
 | ((first|refine Aqz false ?_|refine qcallD_of false ?_);simp (disch:=omega) only [push_cast,seval,hv])
 | ((first|((first|refine call0D (BCall.ofP (svT_ok _ _ _ _ ?_ ?_ ?_)) ?_|refine qcall0D (BCall.ofP (svT_ok _ _ _ _ ?_ ?_ ?_)) ⟨_,_,rfl,rfl⟩ ?_);(iterate 3 (exact sd));rintro _ _ ⟨rfl,rfl⟩)|((first|refine call0D (BCall.ofP (inRange_ok _ _ _)) ?_|refine qcall0D (BCall.ofP (inRange_ok _ _ _)) ⟨_,_,rfl,rfl⟩ ?_);rintro _ _ ⟨rfl,rfl⟩)|((first|refine call0D (supTo_ok _ ?_) ?_|refine qcall0D (supTo_ok _ ?_) ⟨_,_,rfl,rfl⟩ ?_);(exact sd);rintro _ _ ⟨rfl,rfl⟩)|((first|refine call0D (swithout_ok _ _ _ ?_ ?_) ?_|refine qcall0D (swithout_ok _ _ _ ?_ ?_) ⟨_,_,rfl,rfl⟩ ?_);(iterate 2 (exact sd));rintro _ _ ⟨rfl,rfl⟩)|((first|refine call0D (sCon1_ok _ _ _ _ _ _ _ _ ?_ ?_) ?_|refine qcall0D (sCon1_ok _ _ _ _ _ _ _ _ ?_ ?_) ⟨_,_,rfl,rfl⟩ ?_);(iterate 2 (exact sd));rintro _ _ ⟨rfl,rfl⟩))<;>(try simp (disch:=omega) only [push_cast,seval,hv]))
 | (refine Aiz ⟨.inr rfl,[16000,16016],[(16000,1),(16016,1)],_,by decide,rfl,?_⟩;(try simp (disch:=omega) only [push_cast,seval,↓Anz,↓Ajz,↓List.map_cons,↓List.map_nil,hv]))))
    all_goals exact ⟨rfl,rfl⟩
  | true =>
    have h4:a1.length ≤ 4:=(A3z (Bnz.1 hv).1).1.2
    by_cases hd:0 ≤ d ∧ d < a1.length
    · obtain ⟨k,rfl⟩:∃ k:Nat,d=k:=⟨d.toNat,by omega⟩
      have hk:k < a1.length:=by omega
      have hyes:sdT (a1,a2) k=ctT [(a1,a2)] [nums 0 1 a1.length] (wo (nums 0 1 a1.length) k):=by unfold sdT;rw [if_pos ⟨hv,hd⟩,Int.toNat_natCast]
      rw [hyes]
      have hN:=Jbz 0 1 a1.length
      have hW:(wo (nums 0 1 a1.length) k).length ≤ 4:=by simp [wo];omega
      have q0:k < a1.length ∧ a1.length ≤ 1099511627776:=⟨hk,by omega⟩
      have q1:a1.length ≤ 1000:=by omega
      generalize hNN:nums 0 1 a1.length=N at *
      generalize hWW:wo N k=W at *
      (repeat' (first
 | (first|refine Alz ?_|refine Aez ?_)
 | ((first|refine Amz ?_|refine Bez (mid:=l17r3a) (post:=l17r3b) [] Awz (by decide) ?_|refine Adz ?_|refine Agz ?_|refine Ahz ?_);simp (disch:=omega) only [push_cast,seval,l17r0,l17r1,l17r2,l17r3a,l17r3b,l17r3,hv,hNN,hWW,hN])
 | ((first|refine Aaz ?_ ?_|refine Acz ?_ ?_|refine Abz ?_ ?_)<;>intro h<;>(try simp only [h])<;>(try simp only [bitvec_to_nat] at h)<;>(try simp only [h])<;>(first|(exfalso;omega)|(exfalso;simp_all;done)|(simp (disch:=omega) only [push_cast,seval,hv,hNN,hWW,hN])|skip))
 | ((first|refine Aqz false ?_|refine qcallD_of false ?_);simp (disch:=omega) only [push_cast,seval,hv,hNN,hWW,hN])
 | ((first|((first|refine call0D (BCall.ofP (svT_ok _ _ _ _ ?_ ?_ ?_)) ?_|refine qcall0D (BCall.ofP (svT_ok _ _ _ _ ?_ ?_ ?_)) ⟨_,_,rfl,rfl⟩ ?_);(iterate 3 (exact sd));rintro _ _ ⟨rfl,rfl⟩)|((first|refine call0D (BCall.ofP (inRange_ok _ _ _)) ?_|refine qcall0D (BCall.ofP (inRange_ok _ _ _)) ⟨_,_,rfl,rfl⟩ ?_);rintro _ _ ⟨rfl,rfl⟩)|((first|refine call0D (supTo_ok _ ?_) ?_|refine qcall0D (BCall.ofP (plainI (supTo_ok _ ?_))) ⟨_,_,rfl,rfl⟩ ?_);(exact sd);rintro _ _ ⟨rfl,rfl⟩)|((first|refine call0D (swithout_ok _ _ _ ?_ ?_) ?_|refine qcall0D (BCall.ofP (plainI (swithout_ok _ _ _ ?_ ?_))) ⟨_,_,rfl,rfl⟩ ?_);(iterate 2 (exact sd));rintro _ _ ⟨rfl,rfl⟩)|((first|refine call0D (sCon1_ok _ _ _ _ _ _ _ _ ?_ ?_) ?_|refine qcall0D (sCon1_ok _ _ _ _ _ _ _ _ ?_ ?_) ⟨_,_,rfl,rfl⟩ ?_);(iterate 2 (exact sd));rintro _ _ ⟨rfl,rfl⟩))<;>(try simp (disch:=omega) only [push_cast,seval,hv,hNN,hWW,hN]))
 | (refine Aiz ⟨.inr rfl,[512,513],[],_,by decide,rfl,?_⟩;(try simp (disch:=omega) only [push_cast,seval,↓Anz,↓Ajz,↓List.map_cons,↓List.map_nil,hv,hNN,hWW,hN]))))
      all_goals exact ⟨rfl,rfl⟩
    · have hno:sdT (a1,a2) d=none:=by unfold sdT;rw [if_neg (fun h=>hd h.2)]
      rw [hno]
      by_cases h0:0 ≤ d
      · (repeat' (first
 | (first|refine Alz ?_|refine Aez ?_)
 | ((first|refine Amz ?_|refine Arz (mid:=l17r3a) (post:=l17r3b) Awz (by decide) ?_|refine Adz ?_|refine Agz ?_|refine Ahz ?_);simp (disch:=omega) only [push_cast,seval,l17r0,l17r1,l17r2,l17r3a,l17r3b,l17r3,hv,h0])
 | ((first|refine Aaz ?_ ?_|refine Acz ?_ ?_|refine Abz ?_ ?_)<;>intro h<;>(try simp only [h])<;>(try simp only [bitvec_to_nat] at h)<;>(try simp only [h])<;>(first|(exfalso;omega)|(exfalso;simp_all;done)|(simp (disch:=omega) only [push_cast,seval,hv,h0])|skip))
 | ((first|refine Aqz false ?_|refine qcallD_of false ?_);simp (disch:=omega) only [push_cast,seval,hv,h0])
 | ((first|((first|refine call0D (BCall.ofP (svT_ok _ _ _ _ ?_ ?_ ?_)) ?_|refine qcall0D (BCall.ofP (svT_ok _ _ _ _ ?_ ?_ ?_)) ⟨_,_,rfl,rfl⟩ ?_);(iterate 3 (exact sd));rintro _ _ ⟨rfl,rfl⟩)|((first|refine call0D (BCall.ofP (inRange_ok _ _ _)) ?_|refine qcall0D (BCall.ofP (inRange_ok _ _ _)) ⟨_,_,rfl,rfl⟩ ?_);rintro _ _ ⟨rfl,rfl⟩)|((first|refine call0D (supTo_ok _ ?_) ?_|refine qcall0D (supTo_ok _ ?_) ⟨_,_,rfl,rfl⟩ ?_);(exact sd);rintro _ _ ⟨rfl,rfl⟩)|((first|refine call0D (swithout_ok _ _ _ ?_ ?_) ?_|refine qcall0D (swithout_ok _ _ _ ?_ ?_) ⟨_,_,rfl,rfl⟩ ?_);(iterate 2 (exact sd));rintro _ _ ⟨rfl,rfl⟩)|((first|refine call0D (sCon1_ok _ _ _ _ _ _ _ _ ?_ ?_) ?_|refine qcall0D (sCon1_ok _ _ _ _ _ _ _ _ ?_ ?_) ⟨_,_,rfl,rfl⟩ ?_);(iterate 2 (exact sd));rintro _ _ ⟨rfl,rfl⟩))<;>(try simp (disch:=omega) only [push_cast,seval,hv,h0]))
 | (refine Aiz ⟨.inr rfl,[16000,16016],[(16000,1),(16016,1)],_,by decide,rfl,?_⟩;(try simp (disch:=omega) only [push_cast,seval,↓Anz,↓Ajz,↓List.map_cons,↓List.map_nil,hv,h0]))))
        all_goals exact ⟨rfl,rfl⟩
      · (repeat' (first
 | (first|refine Alz ?_|refine Aez ?_)
 | ((first|refine Amz ?_|refine Arz (mid:=l17r3a) (post:=l17r3b) Awz (by decide) ?_|refine Adz ?_|refine Agz ?_|refine Ahz ?_);simp (disch:=omega) only [push_cast,seval,l17r0,l17r1,l17r2,l17r3a,l17r3b,l17r3,hv,h0])
 | ((first|refine Aaz ?_ ?_|refine Acz ?_ ?_|refine Abz ?_ ?_)<;>intro h<;>(try simp only [h])<;>(try simp only [bitvec_to_nat] at h)<;>(try simp only [h])<;>(first|(exfalso;omega)|(exfalso;simp_all;done)|(simp (disch:=omega) only [push_cast,seval,hv,h0])|skip))
 | ((first|refine Aqz false ?_|refine qcallD_of false ?_);simp (disch:=omega) only [push_cast,seval,hv,h0])
 | ((first|((first|refine call0D (BCall.ofP (svT_ok _ _ _ _ ?_ ?_ ?_)) ?_|refine qcall0D (BCall.ofP (svT_ok _ _ _ _ ?_ ?_ ?_)) ⟨_,_,rfl,rfl⟩ ?_);(iterate 3 (exact sd));rintro _ _ ⟨rfl,rfl⟩)|((first|refine call0D (BCall.ofP (inRange_ok _ _ _)) ?_|refine qcall0D (BCall.ofP (inRange_ok _ _ _)) ⟨_,_,rfl,rfl⟩ ?_);rintro _ _ ⟨rfl,rfl⟩)|((first|refine call0D (supTo_ok _ ?_) ?_|refine qcall0D (supTo_ok _ ?_) ⟨_,_,rfl,rfl⟩ ?_);(exact sd);rintro _ _ ⟨rfl,rfl⟩)|((first|refine call0D (swithout_ok _ _ _ ?_ ?_) ?_|refine qcall0D (swithout_ok _ _ _ ?_ ?_) ⟨_,_,rfl,rfl⟩ ?_);(iterate 2 (exact sd));rintro _ _ ⟨rfl,rfl⟩)|((first|refine call0D (sCon1_ok _ _ _ _ _ _ _ _ ?_ ?_) ?_|refine qcall0D (sCon1_ok _ _ _ _ _ _ _ _ ?_ ?_) ⟨_,_,rfl,rfl⟩ ?_);(iterate 2 (exact sd));rintro _ _ ⟨rfl,rfl⟩))<;>(try simp (disch:=omega) only [push_cast,seval,hv,h0]))
 | (refine Aiz ⟨.inr rfl,[16000,16016],[(16000,1),(16016,1)],_,by decide,rfl,?_⟩;(try simp (disch:=omega) only [push_cast,seval,↓Anz,↓Ajz,↓List.map_cons,↓List.map_nil,hv,h0]))))
        all_goals exact ⟨rfl,rfl⟩

end Go.Proofs.Ytfmogaimamphdaa
set_option linter.unusedSimpArgs false
set_option linter.unusedVariables false
set_option maxRecDepth 4000
set_option maxHeartbeats 4000000
namespace Go.Proofs.Ytfmogaimamphdaa
open VwM Vw Go

/-- Labels that agree with extents are agreed on. -/
theorem ex_of {ts:List Tn} {ls:List (List Int)} (f:Int → Int) (hv:ts.all vT=true) (h1:1 ≤ ts.length ∧ ts.length ≤ 3) (hlen:ls.length=ts.length)
    (hl:∀ (i:Nat) (t:Tn) (l:List Int),ts[i]?=some t → ls[i]?=some l → l.length=t.1.length ∧ (∀ x ∈ l,0 ≤ x ∧ x ≤ 4) ∧ ∀ j,j < l.length → f (l.getD j 0)=t.1.getD j 0):∃ e,exO ts ls=some e:=by
  have hok:labOk ts ls=true:=by
    unfold labOk
    rw [List.all_eq_true]
    intro p hp
    obtain ⟨i,hi⟩:=List.mem_iff_getElem?.1 hp
    obtain ⟨a,b⟩:=List.getElem?_zip_eq_some.1 hi
    have:=hl i p.2 p.1 b a
    rw [Bool.and_eq_true,decide_eq_true_eq,Bcz]
    exact ⟨this.1,this.2.1⟩
  obtain ⟨e,he⟩:=extG_ok (f:=fun k=>f (k:Int)) (prsOf ts ls) (e:=ext0) (fun p hp=>by
    obtain ⟨i,t,l,j,ht,hl2,hj,_,rfl⟩:=mem_prs hp
    obtain ⟨a,b,c⟩:=hl i t l ht hl2
    have hb:=b _ (A2z hj)
    refine ⟨by rw [Bxz];simp only;omega,?_⟩
    simp only
    rw [show (((l.getD j 0).toNat:Nat):Int)=l.getD j 0 by omega]
    exact c j hj) (fun k hk h0=>by
    rw [Bxz] at hk
    have:k=0 ∨ k=1 ∨ k=2 ∨ k=3 ∨ k=4:=by omega
    rcases this with rfl|rfl|rfl|rfl|rfl<;>exact absurd h0 (by decide))
  refine ⟨e,?_⟩
  unfold exO
  rw [if_pos (by rw [hv];simp [h1,hlen])]
  unfold exT
  rw [if_pos hok]
  exact he
theorem one_of {t:Tn} {l:List Int} (f:Int → Int) (hv:vT t=true) (h1:l.length=t.1.length) (h2:∀ x ∈ l,0 ≤ x ∧ x ≤ 4) (h3:∀ j,j < l.length → f (l.getD j 0)=t.1.getD j 0):∃ e,exO [t] [l]=some e :=
  ex_of f (by simp [hv]) (by simp) rfl fun i t' l' ht hl=>by
    match i,ht,hl with
    | 0,ht,hl=>simp only [List.getElem?_cons_zero,Option.some.injEq] at ht hl;subst ht hl;exact ⟨h1,h2,h3⟩
/-- The space of labels,those of the result first. -/
theorem sp_out {ts:List Tn} {ls:List (List Int)} {e out:List Int} (hC:CtOk ts ls e) (ho:∀ x ∈ out,x ∈ ls.flatten) (hon:out.Nodup):pr (spE e)=pr (out.map (gE e)) * pr ((sumd ls out).map (gE e)):=by
  rw [spE_lbS (U:=ls.flatten) hC.len hC.un (fun k hk hm=>by have:=(hC.used _ hm).2.1;unfold gE at this;rwa [Int.toNat_natCast] at this),Hbz ((outk hC ho hon).map (gE e)),List.map_append,pr_append]
theorem sumd_all {ls:List (List Int)} {out:List Int} (h:∀ x ∈ ls.flatten,x ∈ out):sumd ls out=[]:=by
  refine List.eq_nil_iff_forall_not_mem.2 fun x hx=>?_
  have:=Chz.1 hx
  exact this.2 (h x this.1.2)
/-- A tensor with its dimensions in another order. -/
def turnT (t:Tn) (order:List Int):Tn:=(permL t.1 order,takesL t.2 (offs 0 (permL t.1 order) (permL (rowS t.1) order)))
theorem turn_idx {sh order:List Int} (hs:vSh sh=true) (ho:isOrd order sh.length):∀ x ∈ offs 0 (permL sh order) (permL (rowS sh) order),0 ≤ x ∧ x < pr sh:=fun x hx=>by
  have h0:=(A3z hs).2.1
  have h:=(offs_perm (b:=0) (st:=rowS sh) (A3z hs).1 ho).mem_iff.1 hx
  rw [offs_row hs,Csz] at h
  omega
theorem Fzz {t:Tn} {order:List Int} (hv:vT t=true) (ho:isOrd order t.1.length):vT (turnT t order)=true:=by
  obtain ⟨h1,h2,h3⟩:=Bnz.1 hv
  refine Bnz.2 ⟨Gpz (B7z ho) h1,?_,fun x hx=>?_⟩
  · show ((takesL t.2 _).length:Int)=pr (permL t.1 order)
    rw [takesL_length,Cwz]
    have:=(A3z (Gpz (B7z ho) h1)).2.1
    omega
  · obtain ⟨y,hy,rfl⟩:=List.mem_map.1 hx
    have:=turn_idx h1 ho y hy
    exact h3 _ (A2z (by omega))
theorem turn_ct {t:Tn} {order:List Int} (hv:vT t=true) (ho:isOrd order t.1.length):ctT [t] [nums 0 1 t.1.length] order=some (turnT t order):=by
  obtain ⟨h1,h2,h3⟩:=Bnz.1 hv
  have hg:=A3z h1
  have h4:=hg.1.2
  obtain ⟨e,he⟩:=one_of (t:=t) (l:=nums 0 1 t.1.length) (fun x=>t.1.getD x.toNat 0) hv (by simp) (fun x hx=>by have:=Csz.1 hx;omega) (fun j hj=>by
    rw [B4z] at hj
    simp only [Cxz _ _ _ _ hj]
    congr 1;omega)
  have hC:=Cpz he
  have hlab:=hC.lab 0 t (nums 0 1 t.1.length) rfl rfl
  have hge:∀ d:Nat,d < t.1.length → gE e d=t.1.getD d 0:=fun d hd=>by
    have:=hlab.2.2.2 d (by simpa using hd)
    rw [Cxz _ _ _ _ hd] at this
    rw [← this];congr 1;omega
  have hO:order.map (gE e)=permL t.1 order:=List.map_congr_left fun x hx=>by
    have hr:=ho.2.1 x hx
    rw [← hge x.toNat (by omega)]
    congr 1;omega
  have hfl:∀ x,x ∈ [nums 0 1 t.1.length].flatten ↔ x ∈ order:=fun x=>by
    rw [show [nums 0 1 t.1.length].flatten=nums 0 1 t.1.length by simp]
    exact (ho.perm.mem_iff).symm
  have hsd:=sumd_all (ls:=[nums 0 1 t.1.length]) (out:=order) fun x hx=>(hfl x).1 hx
  have hvs:vSh (permL t.1 order)=true:=Gpz (B7z ho) h1
  have hsp:=sp_out hC (fun x hx=>(hfl x).2 hx) ho.2.2
  rw [hsd,hO] at hsp
  have hp1:pr (List.map (gE e) [])=1:=rfl
  have hpm:=Hbz (B7z ho)
  have hcc:ctC order e=true:=by
    unfold ctC
    rw [hO,hvs,Bcz.2 fun x hx=>by have:=ho.2.1 x hx;omega]
    rw [hsp,hp1]
    simp only [Bool.true_and,Bool.and_true,Bool.and_eq_true,decide_eq_true_eq]
    exact ⟨ho.2.2,by omega⟩
  have hvp:=A3z hvs
  have hW:ctW [t] [nums 0 1 t.1.length] order e=turnT t order:=by
    unfold ctW turnT
    rw [hO]
    congr 1
    refine Brz (by rw [Gbz,takesL_length,Cwz]) fun p hp=>?_
    rw [Gbz] at hp
    have hpo:p < (offs 0 (permL t.1 order) (permL (rowS t.1) order)).length:=by rw [Cwz];exact hp
    rw [G5z hpo,Fkz hp]
    have hin:=turn_idx h1 ho _ (A2z hpo)
    rw [Fkz hp] at hin
    have hcv:(ctV [t] [nums 0 1 t.1.length] order e (pr (permL t.1 order)).toNat).getD p 0=w64 (ctE [t] [nums 0 1 t.1.length] order e p):=by unfold ctV;simp [List.getD,hp]
    have hdot:dot (fun d=>gE (wayK e order Z5 p) ((nums 0 1 t.1.length).getD d 0)) (rowS t.1) t.1.length=cellK 0 (permL t.1 order) (permL (rowS t.1) order) p:=by
      unfold cellK
      rw [A8z,ho.1,Hzz ho,Int.zero_add]
      refine B2z fun d hd=>?_
      obtain ⟨i1,i2⟩:=Jgz ho hd
      have hi:order[invO order d]?=some (d:Int):=by
        have hlt:invO order d < order.length:=by rw [ho.1];exact i1
        rw [List.getElem?_eq_getElem hlt]
        rw [List.getD,List.getElem?_eq_getElem hlt,Option.getD_some] at i2
        rw [i2]
      rw [Cxz _ _ _ _ hd,show (0:Int) + (d:Int) * 1=d by omega,G2z ho.2.2 (Eyz rfl fun x hx=>by have:=ho.2.1 x hx;omega) hi,hO]
    have hcE:ctE [t] [nums 0 1 t.1.length] order e p=t.2.getD (cellK 0 (permL t.1 order) (permL (rowS t.1) order) p).toNat 0:=by
      unfold ctE
      rw [hsd]
      show gP [t] [nums 0 1 t.1.length] (wayK e order Z5 p)=_
      rw [← hdot]
      simp [gP,prodL,tv]
    rw [hcv,hcE]
    exact w64_id (by have:=h3 _ (A2z (xs:=t.2) (j:=(cellK 0 (permL t.1 order) (permL (rowS t.1) order) p).toNat) (by omega));omega)
  rw [ctT_yes he hcc (by rw [hW];exact Fzz hv ho),hW]

end Go.Proofs.Ytfmogaimamphdaa
set_option linter.unusedSimpArgs false
set_option linter.unusedVariables false
set_option maxRecDepth 4000
set_option maxHeartbeats 4000000
namespace Go.Proofs.Ytfmogaimamphdaa
open VwM Vw Go

def ordB (order:List Int) (n:Nat):Bool:=decide (order.length=n) && allI order 0 ((n:Int) - 1) && decide order.Nodup
def ttT (t:Tn) (order:List Int):Tn:=if (vT t && ordB order t.1.length)=true then turnT t order else ([],[])
theorem ttT_no {t:Tn} {order:List Int} (h:(vT t && ordB order t.1.length)=false):ttT t order=([],[]):=by unfold ttT;rw [h];rfl
theorem G4z {t:Tn} {order:List Int} (h1:vT t=true) (h2:ordB order t.1.length=true):ttT t order=turnT t order:=by unfold ttT;rw [h1,h2];rfl
theorem Ffz {t:Tn} {order:List Int} (h1:vT t=true) (h2:isOrd order t.1.length):(turnT t order).1.length=t.1.length ∧ (turnT t order).1.length ≤ 4 ∧ (turnT t order).2.length ≤ 60:=by
  have hv:=Bnz.1 (Fzz h1 h2)
  have hg:=A3z hv.1
  have hl:(turnT t order).1.length=t.1.length:=by show (permL t.1 order).length=_;rw [A8z,h2.1]
  exact ⟨hl,hg.1.2,by have:=hv.2.1;have:=hg.2;omega⟩
set_option maxHeartbeats 16000000 in
theorem iTT_ok (a1 a2 order:List Int) (n1 n2 m:Nat) (h1:a1.length=n1) (h2:a2.length=n2) (hm:order.length=m) (hb:(n1 ≤ 1099511627776 ∧ n2 ≤ 1099511627776) ∧ m ≤ 1099511627776) :
    BCall Try.prog 11 [.agg [.rows false (IL a1) n1,.rows false (IL a2) n2],.rows false (IL order) m] [] (OT (ttT (a1,a2) order).1 (ttT (a1,a2) order).2):=by
  subst h1 h2 hm
  obtain ⟨⟨hb1,hb2⟩,hb3⟩:=hb
  refine A1z (pins:=[]) (pin:=0) l11_eq rfl rfl rfl ?_
  cases hv:vT (a1,a2) with
  | false =>
    rw [ttT_no (by rw [hv];rfl)]
    (repeat' (first
 | (first|refine Alz ?_|refine Aez ?_)
 | ((first|refine Amz ?_|refine Adz ?_|refine Agz ?_|refine Ahz ?_);simp (disch:=omega) only [push_cast,seval,l11r0,l11r1,l11r2,l11r3,l11r4,l11r5,hv])
 | ((first|refine Aaz ?_ ?_|refine Acz ?_ ?_|refine Abz ?_ ?_)<;>intro h<;>(try simp only [h])<;>(try simp only [bitvec_to_nat] at h)<;>(try simp only [h])<;>(first|(exfalso;omega)|(exfalso;simp_all;done)|(simp (disch:=omega) only [push_cast,seval,hv])|skip))
 | ((first|refine Aqz false ?_|refine qcallD_of false ?_);simp (disch:=omega) only [push_cast,seval,hv])
 | ((first|((first|refine call0D (BCall.ofP (ivT_ok _ _ _ _ ?_ ?_ ?_)) ?_|refine qcall0D (BCall.ofP (ivT_ok _ _ _ _ ?_ ?_ ?_)) ⟨_,_,rfl,rfl⟩ ?_);(iterate 3 (exact sd));rintro _ _ ⟨rfl,rfl⟩)|((first|refine call0D (BCall.ofP (isOrder_ok _ _ _ ?_ ?_)) ?_|refine qcall0D (BCall.ofP (isOrder_ok _ _ _ ?_ ?_)) ⟨_,_,rfl,rfl⟩ ?_);(iterate 2 (exact sd));rintro _ _ ⟨rfl,rfl⟩)|((first|refine call0D (BCall.ofP (progression_ok _ _ _ ?_ ?_)) ?_|refine qcall0D (BCall.ofP (progression_ok _ _ _ ?_ ?_)) ⟨_,_,rfl,rfl⟩ ?_);(iterate 2 (exact sd));rintro _ _ ⟨rfl,rfl⟩)|((first|refine call0D (inumbers_ok _ _ _ ?_) ?_|refine qcall0D (inumbers_ok _ _ _ ?_) ⟨_,_,rfl,rfl⟩ ?_);(exact sd);rintro _ _ ⟨rfl,rfl⟩)|((first|refine call0D (inumU_ok _ ?_) ?_|refine qcall0D (inumU_ok _ ?_) ⟨_,_,rfl,rfl⟩ ?_);(exact sd);rintro _ _ ⟨rfl,rfl⟩)|((first|refine call0D (iCon1_ok _ _ _ _ _ _ _ _ ?_ ?_) ?_|refine qcall0D (iCon1_ok _ _ _ _ _ _ _ _ ?_ ?_) ⟨_,_,rfl,rfl⟩ ?_);(iterate 2 (exact sd));rintro _ _ ⟨rfl,rfl⟩))<;>(try simp (disch:=omega) only [push_cast,seval,hv]))
 | (refine Aiz ⟨.inr rfl,[16000,16016],[(16000,1),(16016,1)],_,by decide,rfl,?_⟩;(try simp (disch:=omega) only [push_cast,seval,↓Anz,↓Ajz,↓List.map_cons,↓List.map_nil,hv]))))
    all_goals exact ⟨rfl,rfl⟩
  | true =>
    obtain ⟨hs,hlen,_⟩:=Bnz.1 hv
    simp only at hs hlen
    have hg:=A3z hs
    have h4:a1.length ≤ 4:=hg.1.2
    have hq0:order.length ≤ 1099511627776 ∧ a1.length ≤ 1000:=by omega
    cases ho:(decide (order.length=a1.length) && allI order 0 ((a1.length:Int) - 1) && decide order.Nodup) with
    | false =>
      rw [ttT_no (by rw [hv];exact ho)]
      (repeat' (first
 | (first|refine Alz ?_|refine Aez ?_)
 | ((first|refine Amz ?_|refine Adz ?_|refine Agz ?_|refine Ahz ?_);simp (disch:=omega) only [push_cast,seval,l11r0,l11r1,l11r2,l11r3,l11r4,l11r5,hv,ho])
 | ((first|refine Aaz ?_ ?_|refine Acz ?_ ?_|refine Abz ?_ ?_)<;>intro h<;>(try simp only [h])<;>(try simp only [bitvec_to_nat] at h)<;>(try simp only [h])<;>(first|(exfalso;omega)|(exfalso;simp_all;done)|(simp (disch:=omega) only [push_cast,seval,hv,ho])|skip))
 | ((first|refine Aqz false ?_|refine qcallD_of false ?_);simp (disch:=omega) only [push_cast,seval,hv,ho])
 | ((first|((first|refine call0D (BCall.ofP (ivT_ok _ _ _ _ ?_ ?_ ?_)) ?_|refine qcall0D (BCall.ofP (ivT_ok _ _ _ _ ?_ ?_ ?_)) ⟨_,_,rfl,rfl⟩ ?_);(iterate 3 (exact sd));rintro _ _ ⟨rfl,rfl⟩)|((first|refine call0D (BCall.ofP (isOrder_ok _ _ _ ?_ ?_)) ?_|refine qcall0D (BCall.ofP (isOrder_ok _ _ _ ?_ ?_)) ⟨_,_,rfl,rfl⟩ ?_);(iterate 2 (exact sd));rintro _ _ ⟨rfl,rfl⟩)|((first|refine call0D (BCall.ofP (progression_ok _ _ _ ?_ ?_)) ?_|refine qcall0D (BCall.ofP (progression_ok _ _ _ ?_ ?_)) ⟨_,_,rfl,rfl⟩ ?_);(iterate 2 (exact sd));rintro _ _ ⟨rfl,rfl⟩)|((first|refine call0D (inumbers_ok _ _ _ ?_) ?_|refine qcall0D (inumbers_ok _ _ _ ?_) ⟨_,_,rfl,rfl⟩ ?_);(exact sd);rintro _ _ ⟨rfl,rfl⟩)|((first|refine call0D (inumU_ok _ ?_) ?_|refine qcall0D (inumU_ok _ ?_) ⟨_,_,rfl,rfl⟩ ?_);(exact sd);rintro _ _ ⟨rfl,rfl⟩)|((first|refine call0D (iCon1_ok _ _ _ _ _ _ _ _ ?_ ?_) ?_|refine qcall0D (iCon1_ok _ _ _ _ _ _ _ _ ?_ ?_) ⟨_,_,rfl,rfl⟩ ?_);(iterate 2 (exact sd));rintro _ _ ⟨rfl,rfl⟩))<;>(try simp (disch:=omega) only [push_cast,seval,hv,ho]))
 | (refine Aiz ⟨.inr rfl,[16000,16016],[(16000,1),(16016,1)],_,by decide,rfl,?_⟩;(try simp (disch:=omega) only [push_cast,seval,↓Anz,↓Ajz,↓List.map_cons,↓List.map_nil,hv,ho]))))
      all_goals exact ⟨rfl,rfl⟩
    | true =>
      have hO:=Fnz ho
      rw [G4z hv ho]
      have hct:=turn_ct hv hO
      simp only at hct
      have hN:=Jbz 0 1 a1.length
      have ho1:=hO.1
      generalize turnT (a1,a2) order=T at *
      generalize hNN:nums 0 1 a1.length=N at *
      have hP:(1:Int) ≤ a1.length → -1000000 ≤ ((a1.length:Int) - 1) * 1 ∧ ((a1.length:Int) - 1) * 1 ≤ 1000000:=fun _=>by omega
      have q1:(-100000:Int) ≤ 0 ∧ (0:Int) ≤ 100000 ∧ (-100000:Int) ≤ 1 ∧ (1:Int) ≤ 100000 ∧ (-1000:Int) ≤ a1.length ∧ (a1.length:Int) ≤ 1000:=by omega
      (repeat' (first
 | (first|refine Alz ?_|refine Aez ?_)
 | ((first|refine Amz ?_|refine Adz ?_|refine Agz ?_|refine Ahz ?_);simp (disch:=omega) only [push_cast,seval,l11r0,l11r1,l11r2,l11r3,l11r4,l11r5,hv,ho,hNN,hN,hct,t0,Option.getD_some,Option.isSome_some])
 | ((first|refine Aaz ?_ ?_|refine Acz ?_ ?_|refine Abz ?_ ?_)<;>intro h<;>(try simp only [h])<;>(try simp only [bitvec_to_nat] at h)<;>(try simp only [h])<;>(first|(exfalso;omega)|(exfalso;simp_all;done)|(simp (disch:=omega) only [push_cast,seval,hv,ho,hNN,hN,hct,t0,Option.getD_some,Option.isSome_some])|skip))
 | ((first|refine Aqz false ?_|refine qcallD_of false ?_);simp (disch:=omega) only [push_cast,seval,hv,ho,hNN,hN,hct,t0,Option.getD_some,Option.isSome_some])
 | ((first|((first|refine call0D (BCall.ofP (ivT_ok _ _ _ _ ?_ ?_ ?_)) ?_|refine qcall0D (BCall.ofP (ivT_ok _ _ _ _ ?_ ?_ ?_)) ⟨_,_,rfl,rfl⟩ ?_);(iterate 3 (exact sd));rintro _ _ ⟨rfl,rfl⟩)|((first|refine call0D (BCall.ofP (isOrder_ok _ _ _ ?_ ?_)) ?_|refine qcall0D (BCall.ofP (isOrder_ok _ _ _ ?_ ?_)) ⟨_,_,rfl,rfl⟩ ?_);(iterate 2 (exact sd));rintro _ _ ⟨rfl,rfl⟩)|((first|refine call0D (BCall.ofP (progression_ok _ _ _ ?_ ?_)) ?_|refine qcall0D (BCall.ofP (progression_ok _ _ _ ?_ ?_)) ⟨_,_,rfl,rfl⟩ ?_);(iterate 2 (exact sd));rintro _ _ ⟨rfl,rfl⟩)|((first|refine call0D (inumbers_ok _ _ _ ?_) ?_|refine qcall0D (inumbers_ok _ _ _ ?_) ⟨_,_,rfl,rfl⟩ ?_);(exact sd);rintro _ _ ⟨rfl,rfl⟩)|((first|refine call0D (inumU_ok _ ?_) ?_|refine qcall0D (inumU_ok _ ?_) ⟨_,_,rfl,rfl⟩ ?_);(exact sd);rintro _ _ ⟨rfl,rfl⟩)|((first|refine call0D (iCon1_ok _ _ _ _ _ _ _ _ ?_ ?_) ?_|refine qcall0D (iCon1_ok _ _ _ _ _ _ _ _ ?_ ?_) ⟨_,_,rfl,rfl⟩ ?_);(iterate 2 (exact sd));rintro _ _ ⟨rfl,rfl⟩))<;>(try simp (disch:=omega) only [push_cast,seval,hv,ho,hNN,hN,hct,t0,Option.getD_some,Option.isSome_some]))
 | (refine Aiz ⟨.inr rfl,[496,497],[],_,by decide,rfl,?_⟩;(try simp (disch:=omega) only [push_cast,seval,↓Anz,↓Ajz,↓List.map_cons,↓List.map_nil,hv,ho,hNN,hN,hct,t0,Option.getD_some,Option.isSome_some]))))
      all_goals exact ⟨rfl,rfl⟩

end Go.Proofs.Ytfmogaimamphdaa
set_option linter.unusedSimpArgs false
set_option linter.unusedVariables false
set_option maxRecDepth 4000
set_option maxHeartbeats 4000000
namespace Go.Proofs.Ytfmogaimamphdaa
open VwM Vw Go

/-- What a draw of tensors with labels is sure to be. -/
def prodF (ts:List Tn) (ls:List (List Int)) (out:List Int):Prop:=(1 ≤ ts.length ∧ ts.length ≤ 3 ∧ ls.length=ts.length) ∧ (∀ t ∈ ts,t.1.length ≤ 5 ∧ t.2.length ≤ 61 ∧ ∀ v ∈ t.2,-9 ≤ v ∧ v ≤ 9) ∧ (∀ l ∈ ls,l.length ≤ 4 ∧ ∀ x ∈ l,0 ≤ x ∧ x ≤ 4) ∧ out.length ≤ 6
structure POk (e:List Int) (many:Int) (p:Int) (ts:List Tn) (ls:List (List Int)) (all:List Int) (q:Int):Prop where
  n:(ts.length:Int) ≤ many
  t:∀ t ∈ ts,t.1.length ≤ 4 ∧ t.2.length ≤ 60 ∧ ∀ v ∈ t.2,-9 ≤ v ∧ v ≤ 9
  l:∀ l ∈ ls,l.length ≤ 3 ∧ ∀ x ∈ l,0 ≤ x ∧ x ≤ 4
  a:all.length ≤ 3 * ts.length ∧ ∀ x ∈ all,0 ≤ x ∧ x ≤ 4
  q1:p ≤ q
  q2:q ≤ p + 10 + 100 * ts.length
end Go.Proofs.Ytfmogaimamphdaa
set_option linter.unusedSimpArgs false
set_option linter.unusedVariables false
set_option maxRecDepth 4000
set_option maxHeartbeats 4000000
namespace Go.Proofs.Ytfmogaimamphdaa
open VwM Vw Go

end Go.Proofs.Ytfmogaimamphdaa
set_option linter.unusedSimpArgs false
set_option linter.unusedVariables false
set_option maxRecDepth 4000
set_option maxHeartbeats 4000000
namespace Go.Proofs.Ytfmogaimamphdaa
open VwM Vw Go

end Go.Proofs.Ytfmogaimamphdaa
set_option linter.unusedSimpArgs false
set_option linter.unusedVariables false
set_option maxRecDepth 4000
set_option maxHeartbeats 4000000
namespace Go.Proofs.Ytfmogaimamphdaa
open VwM Vw Go

/-- What labels have determines all extents. -/
theorem ex_unique {ts ts':List Tn} {ls ls':List (List Int)} {e e':List Int} (h:exO ts ls=some e) (h':exO ts' ls'=some e') (hm:∀ x,x ∈ ls'.flatten ↔ x ∈ ls.flatten) (hg:∀ x ∈ ls.flatten,gE e' x=gE e x):e'=e:=by
  obtain ⟨f1,f2,f3,f4,_⟩:=Hxz h
  obtain ⟨g1,g2,g3,g4,_⟩:=Hxz h'
  refine Brz (by rw [f1,g1]) fun k hk=>?_
  rw [g1] at hk
  by_cases hk2:(k:Int) ∈ ls.flatten
  · have:=hg _ hk2
    unfold gE at this
    rwa [Int.toNat_natCast] at this
  · have a1:=f2 k hk hk2
    have a2:=f4 k hk
    have b1:=g2 k hk (fun hc=>hk2 ((hm _).1 hc))
    have b2:=g4 k hk
    omega
theorem lbS_congr {U V:List Int} (h:∀ x,x ∈ U ↔ x ∈ V):lbS U=lbS V:=by
  rw [lbS_L5,lbS_L5]
  exact List.filter_congr fun x _=>by simp [h x]
theorem ctC_parts {out e:List Int} (h:ctC out e=true):allI out 0 4=true ∧ out.Nodup ∧ vSh (out.map (gE e))=true ∧ pr (spE e) ≤ 4000:=by
  unfold ctC at h
  simp only [Bool.and_eq_true,decide_eq_true_eq] at h
  exact ⟨h.1.1.1,h.1.1.2,h.1.2,h.2⟩
/-- Two contractions with the same extents whose products are the same are the same. -/
theorem ctV_congr {ts ts':List Tn} {ls ls':List (List Int)} {e out:List Int} (hC:CtOk ts ls e) (hm:∀ x,x ∈ ls'.flatten ↔ x ∈ ls.flatten) (hg:∀ w,fitL e ls w → gP ts' ls' w=gP ts ls w) (hc:ctC out e=true):ctW ts' ls' out e=ctW ts ls out e:=by
  obtain ⟨h1,h2,h3,_⟩:=ctC_parts hc
  have ho:=Gsz hC h1 h3
  have hO:∀ x ∈ out,(0 ≤ x ∧ x ≤ 4):=fun x hx=>Bcz.1 h1 x hx
  have hS:∀ x ∈ sumd ls out,(0 ≤ x ∧ x ≤ 4):=fun x hx=>(Chz.1 hx).1.1
  have h0:=(A3z h3).2.1
  unfold ctW
  congr 1
  unfold ctV
  refine List.map_congr_left fun p hp=>?_
  rw [List.mem_range] at hp
  congr 1
  unfold ctE
  have hs:sumd ls' out=sumd ls out:=by unfold sumd;rw [lbS_congr hm]
  rw [hs]
  have hwl:(wayK e out Z5 p).length=5:=by rw [Cqz];rfl
  refine Fvz (Eyz hwl hS) (C7z ls out) fun v hv h1 h2=>hg v ?_
  exact fit_two hC ho hwl (fun x hx=>G1z (Int.natCast_nonneg _) (Eyz rfl hO) (Iyz hC ho (n:=(pr (out.map (gE e))).toNat) (by omega) hp) hx) (by rw [hv,hwl]) h1 h2
theorem ct_congr {ts ts':List Tn} {ls ls':List (List Int)} {e out:List Int} (h:exO ts ls=some e) (h':exO ts' ls'=some e) (hm:∀ x,x ∈ ls'.flatten ↔ x ∈ ls.flatten) (hg:∀ w,fitL e ls w → gP ts' ls' w=gP ts ls w):ctT ts' ls' out=ctT ts ls out:=by
  unfold ctT
  rw [h,h']
  simp only [Option.bind_some]
  cases hc:ctC out e with
  | false=>simp
  | true=>rw [ctV_congr (Cpz h) hm hg hc]
theorem Jnz {ts:List Tn} {ls:List (List Int)} {out:List Int} {o:Tn} (h:ctT ts ls out=some o):∃ e,exO ts ls=some e ∧ ctC out e=true ∧ vT (ctW ts ls out e)=true ∧ o=ctW ts ls out e:=by
  unfold ctT at h
  cases he:exO ts ls with
  | none=>rw [he] at h;cases h
  | some e =>
    rw [he] at h
    simp only [Option.bind_some] at h
    split at h
    · rename_i hc
      injection h with h
      rw [Bool.and_eq_true] at hc
      exact ⟨e,rfl,hc.1,hc.2,h.symm⟩
    · cases h

end Go.Proofs.Ytfmogaimamphdaa
set_option linter.unusedSimpArgs false
set_option linter.unusedVariables false
set_option maxRecDepth 4000
set_option maxHeartbeats 4000000
namespace Go.Proofs.Ytfmogaimamphdaa
open VwM Vw Go

theorem lequT_ok (s t s' t':List Int) (n m n' m':Nat) (h:(s.length=n ∧ t.length=m) ∧ s'.length=n' ∧ t'.length=m') (hb:(n ≤ 1099511627776 ∧ m ≤ 1099511627776) ∧ n' ≤ 1099511627776 ∧ m' ≤ 1099511627776):PCall Try.prog 10 [.agg [.rows false (IL s) n,.rows false (IL t) m],.agg [.rows false (IL s') n',.rows false (IL t') m']] (fun r=>r=.bool (decide (s=s') && decide (t=t'))):=by
  obtain ⟨⟨rfl,rfl⟩,rfl,rfl⟩:=h
  refine Ayz l10_eq rfl ?_
  (repeat' (first
 | (first|refine Alz ?_|refine Aez ?_)
 | ((first|refine Amz ?_|refine Adz ?_|refine Agz ?_|refine Ahz ?_);simp (disch:=omega) only [push_cast,seval,l10r0,l10r1])
 | ((first|refine Aaz ?_ ?_|refine Acz ?_ ?_|refine Abz ?_ ?_)<;>intro h<;>(try simp only [h])<;>(try simp only [bitvec_to_nat] at h)<;>(try simp only [h])<;>(first|(exfalso;omega)|(exfalso;simp_all;done)|(simp (disch:=omega) only [push_cast,seval])|skip))
 | ((first|refine Aqz false ?_|refine qcallD_of false ?_);simp (disch:=omega) only [push_cast,seval])
 | ((first|((first|refine call0D (BCall.ofP (equalInts_ok _ _ _ _ ?_ ?_ ?_)) ?_|refine qcall0D (BCall.ofP (equalInts_ok _ _ _ _ ?_ ?_ ?_)) ⟨_,_,rfl,rfl⟩ ?_);(iterate 3 (exact sd));rintro _ _ ⟨rfl,rfl⟩))<;>(try simp (disch:=omega) only [push_cast,seval]))
 | (refine Aiz ⟨.inr rfl,_,rfl,?_⟩;(try simp (disch:=omega) only [push_cast,seval]))))
  all_goals (first|rfl|(simp_all;done)|(simp_all;omega)|(simp;omega)|(simp;grind)|(simp_all;grind)|skip)


theorem Cnz (t:Tn):t0 (some t)=t:=rfl





end Go.Proofs.Ytfmogaimamphdaa
set_option linter.unusedSimpArgs false
set_option linter.unusedVariables false
set_option maxRecDepth 4000
set_option maxHeartbeats 4000000
namespace Go.Proofs.Ytfmogaimamphdaa
open VwM Vw Go

theorem ordB_of {order:List Int} {n:Nat} (h:isOrd order n):ordB order n=true:=by
  unfold ordB
  rw [Bcz.2 fun x hx=>h.2.1 x hx]
  simp [h.1,h.2.2]

end Go.Proofs.Ytfmogaimamphdaa
