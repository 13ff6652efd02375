import Derived.Test.YtfphjgmkpgoomaaGreatCKw5
import Derived.Test.YtfphjgmkpgoomaaGreatCM1
import Derived.Test.YtfphjgmkpgoomaaGreatCW3
set_option linter.unusedSimpArgs false
set_option linter.unusedVariables false
set_option maxRecDepth 4000
set_option maxHeartbeats 4000000
namespace Go.Proofs.YtfphjgmkpgoomaaGreat
open VwM Vw Go

theorem numsOf_PRg {s c:Int} {n:Nat} (h0:c ≠ 0) (hb:∀ i:Nat,i < n → -100 ≤ s + (i:Int) * c ∧ s + (i:Int) * c ≤ 100):numsOf (pS s n) (pE s c n) (pC c n)=nums s c n:=by
  obtain ⟨h1,h2,-⟩:=PRg_valid h0 hb
  unfold numsOf
  rw [if_pos h1,h2,nums_PR]
theorem ln_list {xs:List Int} (h:xs.length=1):xs=[xs.getD 0 0]:=by
  match xs,h with
  | [x],_=>rfl
theorem line_prog {b:Int} {sh st:List Int} (hv:vV b sh st=true) (h1:sh.length=1):∃ (s c:Int) (n:Nat),1 ≤ c ∧ bothL (offs b sh st) (offs b sh st)=nums s c n ∧ ∀ i:Nat,i < n → -100 ≤ s + (i:Int) * c ∧ s + (i:Int) * c ≤ 100:=by
  have e1:=ln_list h1
  have e2:=ln_list (xs:=st) (by rw [(okV_valid hv).2,h1])
  have hcs:∀ x ∈ offs b sh st,0 ≤ x ∧ x ≤ 59:=fun x hx=>by have:=vV_cells hv x hx;omega
  have h0:=good4_at (vSh_good (vV_spec.1 hv).1).1 (k:=0) (by omega)
  have O1:offs b sh st=nums b (st.getD 0 0) (sh.getD 0 0).toNat:=by
    conv=>lhs;rw [e1,e2]
    exact offs_line _ _ _ h0.1
  rw [O1] at hcs ⊢
  generalize st.getD 0 0=c at *
  generalize (sh.getD 0 0).toNat=n at *
  have hbd:∀ (s k:Int) (m:Nat),(∀ x,x ∈ nums s k m ↔ x ∈ nums b c n) → ∀ i:Nat,i < m → -100 ≤ s + (i:Int) * k ∧ s + (i:Int) * k ≤ 100:=fun s k m hm i hi=>by
    have:=hcs _ ((hm _).1 (mem_nums.2 ⟨i,hi,rfl⟩))
    omega
  by_cases hc:c=0
  · subst hc
    have hm:∀ x,x ∈ nums b 1 (min n 1) ↔ x ∈ nums b 0 n:=fun x=>by
      rw [mem_nums,mem_nums]
      constructor
      · rintro ⟨i,hi,e⟩
        have h0:i=0:=by omega
        subst h0
        exact ⟨0,by omega,by simpa using e⟩
      · rintro ⟨i,hi,e⟩;exact ⟨0,by omega,by simpa using e⟩
    exact ⟨b,1,min n 1,by omega,bothL_self hcs (nums_sorted (by omega) _) hm,hbd _ _ _ hm⟩
  · have hm:∀ x,x ∈ nums (aS b c n) (aC c) n ↔ x ∈ nums b c n:=fun x=>by rw [← ascL_nums b c n hc,mem_ascL]
    exact ⟨aS b c n,aC c,n,aC_pos hc,bothL_self hcs (nums_sorted (aC_pos hc) _) hm,hbd _ _ _ hm⟩
theorem w63_v:vV 2 [6] [3]=true:=by decide
theorem w63_o:offs 2 [6] [3]=nums 2 3 6:=offs_line 2 6 3 (by decide)
theorem w63_b:bothL (nums 2 3 6) (nums 2 3 6)=nums 2 3 6:=bothL_self (by decide) (nums_sorted (by decide) _) fun _=>Iff.rfl
theorem w63_1:pS 2 ((6:Nat):Int)=2:=by decide
theorem w63_2:pE 2 3 ((6:Nat):Int)=18:=by decide
theorem w63_3:pC 3 ((6:Nat):Int)=3:=by decide
theorem w63_l:lineA 2 [6] [3]=rng 2 18 3:=by
  unfold lineA
  rw [if_pos ⟨w63_v,rfl⟩,w63_o,w63_b,nrmA_nums,PR,w63_1,w63_2,w63_3]
theorem line_meet {s c:Int} {n:Nat} (hc:1 ≤ c) (hb:∀ i:Nat,i < n → -100 ≤ s + (i:Int) * c ∧ s + (i:Int) * c ≤ 100):∃ x y z:Int,∃ X:List Int,meA (pS s n) (pE s c n) (pC c n) 2 18 3=rng x y z ∧ numsOf x y z=X ∧ (∀ v,v ∈ X ↔ v ∈ nums s c n ∧ v ∈ nums 2 3 6) ∧ X.Pairwise (· < ·):=by
  obtain ⟨v1,v2,-⟩:=PRg_valid (s:=s) (c:=c) (n:=n) (by omega) hb
  have hb':∀ i:Nat,i < 6 → -100 ≤ (2:Int) + (i:Int) * 3 ∧ (2:Int) + (i:Int) * 3 ≤ 100:=fun i hi=>by omega
  obtain ⟨v1',v2',-⟩:=PRg_valid (s:=2) (c:=3) (n:=6) (by omega) hb'
  obtain ⟨f,l,m,l1,e1,-,hmem,hbd,-⟩:=meA_info v1 v1'
  rw [v2,v2',nums_PR,nums_PR] at hmem
  rw [w63_1,w63_2,w63_3] at e1
  exact ⟨_,_,_,nums f l m,e1,numsOf_PRg (by omega) hbd,hmem,nums_sorted l1 m⟩

end Go.Proofs.YtfphjgmkpgoomaaGreat
