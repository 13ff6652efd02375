import Derived.Test.YtahdlohpncjdbaaDoorCKh8
import Derived.Test.YtahdlohpncjdbaaDoorCM1
import Derived.Test.YtahdlohpncjdbaaDoorCW3
set_option linter.unusedSimpArgs false
set_option linter.unusedVariables false
set_option maxRecDepth 4000
set_option maxHeartbeats 4000000
namespace Go.Proofs.YtahdlohpncjdbaaDoor
open VwM Vw Go
set_option linter.unusedSectionVars false
variable [SentA]

theorem succ_ne0H (j : Nat) : (j + 1 = 0) = False := by simp
theorem ne0_succH (j : Nat) : (0 = j + 1) = False := by simp
theorem hk_pinB_none (rows : Nat → List Int) (n id : Nat) (h : n + 2 ≤ id) : hk (pinB rows n) id = none := by
  have := hk_rangeMap (fun j => j + 2) (fun j => IL (rows j)) [] id (List.range n) fun j hj e => by have := List.mem_range.1 hj; omega
  rw [List.append_nil] at this
  exact this


end Go.Proofs.YtahdlohpncjdbaaDoor
