/- Work that is put off: what follows a join, as a goal of its own that the walk leaves alone. -/
import Derived.Test.YtniddegncklgpaaCVwU
namespace Vw
open Go
structure Later (p : Prop) : Prop where
  get : p
section
variable {P : Program} {pin : Nat}
theorem awp_joinL {s : S} {c1 c2 : ACode} {Q : Exit → S → Prop} {κ : Type} (I : κ → S) (Pre : κ → Prop) (h1 : awp P pin c1 (fun e s' => e = .normal ∧ ∃ x, Pre x ∧ Sub pin s' (I x)) s) (h2 : Later (∀ x, Pre x → awp P pin c2 Q (I x))) : awp P pin (.seq c1 c2) Q s := awp_join I Pre h1 h2.get
end
end Vw
