import Derived.Test.YtfkbhkpbfnklaaaCKq7
import Derived.Test.YtfkbhkpbfnklaaaCM1
import Derived.Test.YtfkbhkpbfnklaaaCW3
set_option linter.unusedSimpArgs false
set_option linter.unusedVariables false
set_option maxRecDepth 4000
set_option maxHeartbeats 4000000
namespace Go.Proofs.Ytfkbhkpbfnklaaa
open VwM Vw Go

/-- The product of two matrices,the trace of one: contractions with labels that are written down. -/
abbrev mmT (a b:Tn):Option Tn:=ctT [a,b] [[0,1],[1,2]] [0,2]
abbrev trT (t:Tn):Option Tn:=ctT [t] [[0,0]] []
abbrev bTn (t:Tn):Prop:=t.1.length ≤ 1099511627776 ∧ t.2.length ≤ 1099511627776
theorem ctT_vT {ts:List Tn} {ls:List (List Int)} {out:List Int} {t:Tn} (h:ctT ts ls out=some t):vT t=true:=by
  unfold ctT at h
  cases he:exO ts ls with
  | none=>rw [he] at h;cases h
  | some e =>
    rw [he] at h
    simp only [Option.bind_some] at h
    split at h
    · rename_i hc
      injection h with h
      rw [Bool.and_eq_true] at hc
      rw [← h];exact hc.2
    · cases h
theorem trT_one {t v:Tn} (h:trT t=some v):∃ x,v.2=[x]:=by
  have h2:=h
  unfold trT ctT at h
  cases he:exO [t] [[0,0]] with
  | none=>rw [he] at h;cases h
  | some e =>
    rw [he] at h
    simp only [Option.bind_some] at h
    split at h
    · injection h with h
      have h3:=(vT_spec.1 (ctT_vT h2)).2.1
      have h4:v.1=[]:=by rw [← h];rfl
      rw [h4] at h3
      have h5:v.2.length=1:=by have:pr ([]:List Int)=1:=rfl;omega
      match hv:v.2,h5 with
 | [x],_=>exact ⟨x,rfl⟩
    · cases h
theorem zcT1 (z:AV):zcells [z] 2=[z,z]:=by simp [zcells,List.range_succ]
theorem zcT2 (x y:AV):zcells [x,y] 2=[x,y,x,y]:=by simp [zcells,List.range_succ]


theorem iConM_ok (a1 a2 b1 b2:List Int) (n1 n2 m1 m2:Nat) (hn:(a1.length=n1 ∧ a2.length=n2) ∧ b1.length=m1 ∧ b2.length=m2) (hb:(n1 ≤ 1099511627776 ∧ n2 ≤ 1099511627776) ∧ m1 ≤ 1099511627776 ∧ m2 ≤ 1099511627776) :
    BCall Try.prog 18 [.rows false [.rows false (IL a1) n1,.rows false (IL a2) n2,.rows false (IL b1) m1,.rows false (IL b2) m2] 2,.rows false [.rows false [.int .i64 0,.int .i64 1] 2,.rows false [.int .i64 1,.int .i64 2] 2] 2,.rows false [.int .i64 0,.int .i64 2] 2] [] (OTn (mmT (a1,a2) (b1,b2))):=by
  obtain ⟨⟨rfl,rfl⟩,rfl,rfl⟩:=hn
  exact iCon_ok [(a1,a2),(b1,b2)] [[0,1],[1,2]] [0,2] 2 2 2 rfl rfl rfl ⟨by omega,by simp;omega,by simp⟩


def OTr (o:Option Tn):AV:=.tup [.int .i64 ((t0 o).2.getD 0 0),.bool o.isSome]


theorem iConT_ok (a1 a2:List Int) (n1 n2:Nat) (hn:a1.length=n1 ∧ a2.length=n2) (hb:n1 ≤ 1099511627776 ∧ n2 ≤ 1099511627776) :
    BCall Try.prog 18 [.rows false [.rows false (IL a1) n1,.rows false (IL a2) n2] 1,.rows false [.rows false [.int .i64 0,.int .i64 0] 2] 1,.rows false [] 0] [] (OTn (trT (a1,a2))):=by
  obtain ⟨rfl,rfl⟩:=hn
  exact iCon_ok [(a1,a2)] [[0,0]] [] 1 1 0 rfl rfl rfl ⟨by omega,by simp;omega,by simp⟩

end Go.Proofs.Ytfkbhkpbfnklaaa
