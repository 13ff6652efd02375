import Derived.Test.YtfkbhkpbfnklaaaCKp9
import Derived.Test.YtfkbhkpbfnklaaaCM1
import Derived.Test.YtfkbhkpbfnklaaaCW3
set_option linter.unusedSimpArgs false
set_option linter.unusedVariables false
set_option maxRecDepth 4000
set_option maxHeartbeats 4000000
namespace Go.Proofs.Ytfkbhkpbfnklaaa
open VwM Vw Go

/-- The better of the best so far and one more. -/
def stp (c:Int → Int → Int) (s:Option (Nat × Nat)) (p:Nat × Nat):Option (Nat × Nat):=match s with|none=>some p|some t=>if c p.1 p.2 < c t.1 t.2 then some p else some t
def inT (c:Int → Int → Int) (i:Nat) (s:Option (Nat × Nat)):Nat → Option (Nat × Nat)
  | 0=>s
  | k + 1=>stp c (inT c i s k) (i,i + 1 + k)
def outT (c:Int → Int → Int) (n:Nat):Nat → Option (Nat × Nat)
  | 0=>none
  | i + 1=>inT c i (outT c n i) (n - (i + 1))
def fI (s:Option (Nat × Nat)):Int:=match s with|none=>-1|some t=>t.1
def sI (s:Option (Nat × Nat)):Int:=match s with|none=>-1|some t=>t.2
def bI (c:Int → Int → Int) (s:Option (Nat × Nat)):Int:=match s with|none=>0|some t=>c t.1 t.2
theorem stp_some (c:Int → Int → Int) (s:Option (Nat × Nat)) (p:Nat × Nat):(stp c s p).isSome=true:=by
  unfold stp
  split
  · rfl
  · split<;>rfl
theorem inT_some (c:Int → Int → Int) (i:Nat) (s:Option (Nat × Nat)):∀ k,0 < k ∨ s.isSome=true → (inT c i s k).isSome=true
  | 0,h=>by rcases h with h|h;exact absurd h (by omega);exact h
  | k + 1,_=>stp_some ..
theorem outT_some (c:Int → Int → Int) (n:Nat) (hn:2 ≤ n):∀ i,0 < i → (outT c n i).isSome=true
  | i + 1,_=>by
    simp only [outT]
    refine inT_some _ _ _ _ ?_
    cases i with
    | zero=>left;omega
    | succ i=>right;exact outT_some c n hn (i + 1) (by omega)
theorem stp_lt {c:Int → Int → Int} {s:Option (Nat × Nat)} {i q:Nat} (h:fI s < 0 ∨ c i q < bI c s):stp c s (i,q)=some (i,q):=by
  cases s with
  | none=>rfl
  | some t =>
    simp only [fI,bI] at h
    unfold stp
    simp only
    rw [if_pos]
    rcases h with h|h
    · omega
    · exact h
theorem stp_ge {c:Int → Int → Int} {s:Option (Nat × Nat)} {i q:Nat} (h1:¬ fI s < 0) (h2:¬ c i q < bI c s):stp c s (i,q)=s:=by
  cases s with
  | none=>simp [fI] at h1
  | some t =>
    simp only [bI] at h2
    unfold stp
    simp only
    rw [if_neg h2]
def fJ (s:Option (Nat × Nat)):Int:=(s.getD (0,1)).1
def sJ (s:Option (Nat × Nat)):Int:=(s.getD (0,1)).2
theorem stpJ_lt {c:Int → Int → Int} {s:Option (Nat × Nat)} {i q:Nat} (h:c i q < c (fJ s) (sJ s)):stp c s (i,q)=some (i,q):=by
  cases s with
  | none=>rfl
  | some t =>
    simp only [fJ,sJ,Option.getD_some] at h
    unfold stp
    simp only
    rw [if_pos h]
theorem stpJ_ge {c:Int → Int → Int} {s:Option (Nat × Nat)} {i q:Nat} (hs:s=none → i=0 ∧ q=1) (h:¬ c i q < c (fJ s) (sJ s)):fJ (stp c s (i,q))=fJ s ∧ sJ (stp c s (i,q))=sJ s:=by
  cases s with
  | none=>obtain ⟨rfl,rfl⟩:=hs rfl;exact ⟨rfl,rfl⟩
  | some t =>
    simp only [fJ,sJ,Option.getD_some] at h
    unfold stp
    simp only
    rw [if_neg h]
    exact ⟨rfl,rfl⟩
theorem fI_some {s:Option (Nat × Nat)} (h:s.isSome=true):fI s=fJ s ∧ sI s=sJ s:=by
  cases s with
  | none=>cases h
  | some t=>exact ⟨rfl,rfl⟩
def bpS (ts:List Tn) (ls:List (List Int)) (out:List Int):Option (Nat × Nat):=match exP ts ls out with|none=>none|some e=>outT (fun i j=>cbN e ls out i.toNat j.toNat) ts.length ts.length
theorem outT_one (c:Int → Int → Int) (n:Nat) (h:n < 2):outT c n n=none:=by
  match n,h with
  | 0,_=>rfl
  | 1,_=>rfl
theorem fI_bound {c:Int → Int → Int} {n i:Nat}:∀ {k:Nat} {s:Option (Nat × Nat)},(∀ t,s=some t → t.1 < n ∧ t.2 < n ∧ t.1 ≠ t.2) → i + k < n → ∀ t,inT c i s k=some t → t.1 < n ∧ t.2 < n ∧ t.1 ≠ t.2
  | 0,s,hs,_,t,h=>hs t h
  | k + 1,s,hs,hk,t,h=>by
    have ih:=fI_bound (c:=c) (n:=n) (i:=i) (k:=k) hs (by omega)
    simp only [inT] at h
    generalize inT c i s k=u at *
    cases u with
    | none=>simp only [stp] at h;cases h;simp only;omega
    | some w =>
      simp only [stp] at h
      split at h
      · cases h;simp only;omega
      · cases h;exact ih _ rfl
theorem outT_bound {c:Int → Int → Int} {n:Nat}:∀ {i:Nat},i ≤ n → ∀ t,outT c n i=some t → t.1 < n ∧ t.2 < n ∧ t.1 ≠ t.2
  | 0,_,t,h=>by simp [outT] at h
  | i + 1,hi,t,h=>fI_bound (i:=i) (k:=n - (i + 1)) (outT_bound (i:=i) (by omega)) (by omega) t h

end Go.Proofs.Ytfkbhkpbfnklaaa
