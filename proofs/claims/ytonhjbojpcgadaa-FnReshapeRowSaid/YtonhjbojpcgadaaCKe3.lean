import Derived.Test.YtonhjbojpcgadaaCKe2
import Derived.Test.YtonhjbojpcgadaaCM1
import Derived.Test.YtonhjbojpcgadaaCW3
set_option linter.unusedSimpArgs false
set_option linter.unusedVariables false
set_option linter.unnecessarySimpa false
set_option maxRecDepth 4000
set_option maxHeartbeats 4000000
namespace Go.Proofs.Ytonhjbojpcgadaa
open VwM Vw Go

theorem ins_mem {xs : List Int} {k : Nat} {x y : Int} (h : y ∈ ins xs k x) : y ∈ xs ∨ y = x := by
  unfold ins at h
  rcases List.mem_append.1 h with h | h
  · exact .inl (List.mem_of_mem_take h)
  · rcases List.mem_cons.1 h with h | h
    · exact .inr h
    · exact .inl (List.mem_of_mem_drop h)

end Go.Proofs.Ytonhjbojpcgadaa
