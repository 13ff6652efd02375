import Derived.Test.YtfkbhkpbfnklaaaCKp7
import Derived.Test.YtfkbhkpbfnklaaaCM1
import Derived.Test.YtfkbhkpbfnklaaaCW3
set_option linter.unusedSimpArgs false
set_option linter.unusedVariables false
set_option maxRecDepth 4000
set_option maxHeartbeats 4000000
namespace Go.Proofs.Ytfkbhkpbfnklaaa
open VwM Vw Go

/-- What the inner loop of the cost by two has found after q lists. -/
def rcO (e:List Int) (ls:List (List Int)) (K:List Int) (i j k q:Nat):Int:=if (k:Int) ∈ (besT ls i j q).flatten ∨ (0 < q ∧ (k:Int) ∈ K) then e.getD k 0 else -1
theorem rcO_zero (e:List Int) (ls:List (List Int)) (K:List Int) (i j k:Nat):rcO e ls K i j k 0=-1:=by
  unfold rcO;rw [if_neg];simp [besT]
theorem rcO_all (e:List Int) (ls:List (List Int)) (K:List Int) (i j k q:Nat) (hq:0 < q) (he:q=ls.length):rcO e ls K i j k q=if (k:Int) ∈ (besL ls i j).flatten ++ K then e.getD k 0 else -1:=by
  subst he
  unfold rcO
  simp only [hq,true_and,List.mem_append]
theorem rcO_keep {e:List Int} {ls:List (List Int)} {K:List Int} {i j k q:Nat} (h:(k:Int) ∈ K):rcO e ls K i j k (q + 1)=e.getD k 0:=by
  unfold rcO;rw [if_pos (.inr ⟨by omega,h⟩)]
theorem rcO_skip {e:List Int} {ls:List (List Int)} {K:List Int} {i j k q:Nat} (h:(k:Int) ∉ K) (hq:q=i ∨ q=j):rcO e ls K i j k (q + 1)=rcO e ls K i j k q:=by
  unfold rcO;rw [besT_no hq];simp only [h,and_false,or_false]
theorem rcO_out {e:List Int} {ls:List (List Int)} {K l:List Int} {i j k q:Nat} (h:(k:Int) ∉ K) (hl:ls[q]?=some l) (hi:q ≠ i) (hj:q ≠ j) (hm:(k:Int) ∉ l):rcO e ls K i j k (q + 1)=rcO e ls K i j k q:=by
  unfold rcO;rw [besT_yes hl hi hj];simp only [h,and_false,or_false,List.flatten_append,List.mem_append,List.flatten_cons,List.flatten_nil,List.append_nil,hm]
theorem rcO_in {e:List Int} {ls:List (List Int)} {K l:List Int} {i j k q:Nat} (hl:ls[q]?=some l) (hi:q ≠ i) (hj:q ≠ j) (hm:(k:Int) ∈ l):rcO e ls K i j k (q + 1)=e.getD k 0:=by
  unfold rcO;rw [if_pos];left;rw [besT_yes hl hi hj];simp [hm]

end Go.Proofs.Ytfkbhkpbfnklaaa
