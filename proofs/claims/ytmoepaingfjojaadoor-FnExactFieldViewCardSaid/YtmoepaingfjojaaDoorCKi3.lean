import Derived.Test.YtmoepaingfjojaaDoorCKi2
import Derived.Test.YtmoepaingfjojaaDoorCM1
import Derived.Test.YtmoepaingfjojaaDoorChecked
import Derived.RegionCalls
import Derived.Below
set_option linter.unusedSimpArgs false
set_option linter.unusedVariables false
set_option maxRecDepth 4000
set_option maxHeartbeats 4000000
namespace Go.Proofs.YtmoepaingfjojaaDoor
open VwM Vw Go

set_option maxHeartbeats 16000000 in
theorem cellHighC (w : World) (p z k : Int) : Calls Tryd.prog 23 #[.agg #[.func (.func 36) #[] #[]],.agg #[.int .i64 p,.int .i64 z],.int .i64 k] w
    (fun e w' => e = .returned (.int .i64 (IntKind.i64.wrap (p + IntKind.i64.wrap (IntKind.i64.wrap (z - 1) - k)))) ∧ Go.RowKit.Below w.heap.size w w') := by
  go_enter Tryd.func23,Tryd.ntmps23
  go_wp2
  go_region_calls
  all_goals (try go_wp2)
  all_goals go_ret
  all_goals exact ⟨by simp [Act.put,IntKind.wrap_i64,Go.RowKit.wrap64],Go.RowKit.Below.drew (Go.RowKit.Below.alloc (Go.RowKit.Below.alloc (Go.RowKit.Below.refl _ _) (Nat.le_refl _) _) (Nat.le_of_lt (by show w.heap.size < (w.heap.push _).size; simp)) _)⟩
set_option maxHeartbeats 16000000 in
theorem cellLowC (w : World) (p z k : Int) : Calls Tryd.prog 23 #[.agg #[.func (.func 37) #[] #[]],.agg #[.int .i64 p,.int .i64 z],.int .i64 k] w
    (fun e w' => e = .returned (.int .i64 (IntKind.i64.wrap (p + k))) ∧ Go.RowKit.Below w.heap.size w w') := by
  go_enter Tryd.func23,Tryd.ntmps23
  go_wp2
  go_region_calls
  all_goals (try go_wp2)
  all_goals go_ret
  all_goals exact ⟨by simp [Act.put,IntKind.wrap_i64],Go.RowKit.Below.drew (Go.RowKit.Below.alloc (Go.RowKit.Below.alloc (Go.RowKit.Below.refl _ _) (Nat.le_refl _) _) (Nat.le_of_lt (by show w.heap.size < (w.heap.push _).size; simp)) _)⟩

end Go.Proofs.YtmoepaingfjojaaDoor
