/- Work that is put off: what follows a join, as a goal of its own that the walk leaves alone. -/
import Derived.Test.YtodfknmnhlaiaaaCVwU
namespace Vw
open Go
structure Later (p : Prop) : Prop where
  get : p
section
variable {P : Program} {pin : Nat}
theorem awp_joinL {s : S} {c1 c2 : ACode} {Q : Exit → S → Prop} {κ : Type} (I : κ → S) (Pre : κ → Prop) (h1 : awp P pin c1 (fun e s' => e = .normal ∧ ∃ x, Pre x ∧ Sub pin s' (I x)) s) (h2 : Later (∀ x, Pre x → awp P pin c2 Q (I x))) : awp P pin (.seq c1 c2) Q s := awp_join I Pre h1 h2.get
end
theorem exSub1 {α0 : Type} {pin : Nat} {s : S} {Pre : α0 → Prop} {I : α0 → S} {a : α0} (h2 : Sub pin s (I a)) (h1 : Pre a) : ∃ x, Pre x ∧ Sub pin s (I x) := ⟨_, h1, h2⟩
theorem exSub9 {α0 α1 α2 α3 α4 α5 α6 α7 α8 : Type} {pin : Nat} {s : S} {Pre : α0 × α1 × α2 × α3 × α4 × α5 × α6 × α7 × α8 → Prop} {I : α0 × α1 × α2 × α3 × α4 × α5 × α6 × α7 × α8 → S} {a : α0} {b : α1} {c : α2} {d : α3} {e : α4} {f : α5} {g : α6} {h : α7} {i : α8} (h2 : Sub pin s (I (a, b, c, d, e, f, g, h, i))) (h1 : Pre (a, b, c, d, e, f, g, h, i)) : ∃ x, Pre x ∧ Sub pin s (I x) := ⟨_, h1, h2⟩
theorem exSub10 {α0 α1 α2 α3 α4 α5 α6 α7 α8 α9 : Type} {pin : Nat} {s : S} {Pre : α0 × α1 × α2 × α3 × α4 × α5 × α6 × α7 × α8 × α9 → Prop} {I : α0 × α1 × α2 × α3 × α4 × α5 × α6 × α7 × α8 × α9 → S} {a : α0} {b : α1} {c : α2} {d : α3} {e : α4} {f : α5} {g : α6} {h : α7} {i : α8} {j : α9} (h2 : Sub pin s (I (a, b, c, d, e, f, g, h, i, j))) (h1 : Pre (a, b, c, d, e, f, g, h, i, j)) : ∃ x, Pre x ∧ Sub pin s (I x) := ⟨_, h1, h2⟩
theorem exSub11 {α0 α1 α2 α3 α4 α5 α6 α7 α8 α9 α10 : Type} {pin : Nat} {s : S} {Pre : α0 × α1 × α2 × α3 × α4 × α5 × α6 × α7 × α8 × α9 × α10 → Prop} {I : α0 × α1 × α2 × α3 × α4 × α5 × α6 × α7 × α8 × α9 × α10 → S} {a : α0} {b : α1} {c : α2} {d : α3} {e : α4} {f : α5} {g : α6} {h : α7} {i : α8} {j : α9} {k : α10} (h2 : Sub pin s (I (a, b, c, d, e, f, g, h, i, j, k))) (h1 : Pre (a, b, c, d, e, f, g, h, i, j, k)) : ∃ x, Pre x ∧ Sub pin s (I x) := ⟨_, h1, h2⟩
theorem exSub12 {α0 α1 α2 α3 α4 α5 α6 α7 α8 α9 α10 α11 : Type} {pin : Nat} {s : S} {Pre : α0 × α1 × α2 × α3 × α4 × α5 × α6 × α7 × α8 × α9 × α10 × α11 → Prop} {I : α0 × α1 × α2 × α3 × α4 × α5 × α6 × α7 × α8 × α9 × α10 × α11 → S} {a : α0} {b : α1} {c : α2} {d : α3} {e : α4} {f : α5} {g : α6} {h : α7} {i : α8} {j : α9} {k : α10} {l : α11} (h2 : Sub pin s (I (a, b, c, d, e, f, g, h, i, j, k, l))) (h1 : Pre (a, b, c, d, e, f, g, h, i, j, k, l)) : ∃ x, Pre x ∧ Sub pin s (I x) := ⟨_, h1, h2⟩
end Vw
