import Derived.Test.YtahdlohpncjdbaaDoorCKm10
import Derived.Test.YtahdlohpncjdbaaDoorCM1
import Derived.WalkKit
import Derived.LaidEql
import Derived.Stop.Asserts
import Derived.RowKitTokens
set_option linter.unusedSimpArgs false
set_option linter.unusedVariables false
set_option maxRecDepth 4000
set_option maxHeartbeats 4000000
namespace Go.Proofs.YtahdlohpncjdbaaDoor
open VwM Vw Go
set_option linter.unusedSectionVars false
variable [SentA]

open Go.RowKit Go.Extern.Stop Go.Stop Go.Extern in
open Go.RowKit Go.Extern.Stop Go.Stop Go.Extern in
theorem isTypeOf1 (v : Value) (w : World) : (Extern.ReflectliteType.typeOf #[.iface 137 v]).run Tryd.prog w = .ok (.iface 110 (.agg #[.pointer (some ⟨1,137,none⟩)])) w := by kernel_rfl
open Go.RowKit Go.Extern.Stop Go.Stop Go.Extern Go.Extern.ReflectliteType in
theorem isComparable (w : World) : ((Extern.ReflectliteType.method fun t => do Extern.Rtype.noPackHeld "Comparable" t; pure (.bool (← typeInfo t).comparable)) #[.agg #[.pointer (some ⟨1,137,none⟩)]]).run Tryd.prog w = .ok (.bool true) w := by kernel_rfl
open Go.RowKit Go.Extern.Stop Go.Stop Go.Extern Go.Extern.ReflectliteType in
theorem runComparable (w : World) : Sem.run Tryd.prog (callFunc 127 #[.agg #[.pointer (some ⟨1,137,none⟩)]]) w = Result.ok (Next.value (Value.bool true)) w := by
  have h := @run_callFunc_extern Tryd.prog 127 _ (Extern.ReflectliteType.method fun t => do Extern.Rtype.noPackHeld "Comparable" t; pure (.bool (← typeInfo t).comparable)) Tryd.func127 (by kernel_rfl) (by kernel_rfl) (by kernel_rfl) (by kernel_rfl)
  rw [h,isComparable]
  rfl
theorem isMethodComparable (v : Value) (w : World) : (Go.method 273 110 v "Comparable").run Tryd.prog w = .ok (127,v) w := by kernel_rfl
theorem isComp : (Tryd.prog.info? 137).map (·.comparable) = some true := by kernel_rfl
theorem isSize : (Tryd.prog.info? 161).map (·.size) = some 1 := by kernel_rfl
open Go.RowKit Go.Extern.Stop Go.Stop Go.Extern in
set_option maxHeartbeats 16000000 in
theorem is_same (a : Addr) (w : World) :
    Calls Tryd.prog 36 #[.iface 137 (.pointer (some a)),.iface 137 (.pointer (some a))] w fun e w' => e = .returned (.bool true) ∧ w' = w := by
  obtain ⟨i,hi,hcmp⟩ := Option.map_eq_some_iff.1 isComp
  obtain ⟨j,hj,hjs⟩ := Option.map_eq_some_iff.1 isSize
  have h8 := @run_callFunc_extern Tryd.prog 67 _ Extern.ReflectliteType.typeOf Tryd.func67 (by kernel_rfl) (by kernel_rfl) (by kernel_rfl) (by kernel_rfl)
  have h32 := runComparable
  have tT := isTypeOf1
  have mR := isMethodComparable
  have heq := run_eql_iface_ptr_same (P := Tryd.prog) w a Tryd.underlying59 Tryd.underlying137 hi hcmp hj
  go_enter Tryd.func36,Tryd.ntmps36
  go_wp2
  all_goals (try (refine wp_loop_rounds 1 ?_; rw [rounds_succ]; go_wp2))
  all_goals (try (go_ret; exact ⟨rfl,rfl⟩))
open Go.RowKit Go.Extern.Stop Go.Stop Go.Extern in
theorem is_nil (b : Addr) (w : World) :
    Calls Tryd.prog 36 #[.nilIface,.iface 137 (.pointer (some b))] w fun e w' => e = .returned (.bool false) ∧ w' = w := by
  have hn := run_eql_iface_nil_left (P := Tryd.prog) w 137 (.pointer (some b)) Tryd.underlying59
  go_enter Tryd.func36,Tryd.ntmps36
  go_wp2
  go_ret
  exact ⟨rfl,rfl⟩

end Go.Proofs.YtahdlohpncjdbaaDoor
