/-
  DERIVED. GIVEN WITH THE SEED: THE CARDS: each row of YtjmcjjbhkiebkaaDoorRows.lean that lists a variable, with what it lists TIED to the program's text (the seventh form; the later family's looks); each row that meets fmt, with fmt's text TOLD by the authors' own Lean function (tested against real Go, not proved from fmt's source: count such statements apart). THE CARD IS WHAT COUNTS. Prove the row's statement (the work); the ties are given (YtjmcjjbhkiebkaaDoorTie.lean); close each card by the builder's one call (the guide's Derived/Test/ToyasCard.lean, 'card_holds'). Laid BY PROGRAM, IN A SANDBOX (cutbox-door.mjs). By AI agents, Wed Nov 11 2026. No macro, syntax, notation, axiom, sorry.
-/
import Derived.Test.YtjmcjjbhkiebkaaDoorRows
import GoSem.ClaimSeven
namespace Go.Proofs.YtjmcjjbhkiebkaaDoor
namespace Rows

/-- THE TIED CARD OF 'laws.FnExactPackAll'. -/
def fnExactPackAllCard : Claim7 := { stood := { row := fnExactPackAllRow, standIns := [], harness := (true, "7ed86b91d6a1f206cc5bdd466269eef4060e5b02dd21178697a832a4f6a11930"), looks := false }, kinds := [], alts := [], laidByText := true, laidKinds := [.data], laidTests := true, laidLooks := .later }
def FnExactPackAllCardSaid : Prop := Claim7.holds Tryd.pinned (.plain (OpenSpec.ofChange fnExactPackAllSpec)) fnExactPackAllCard

/-- THE SECOND FORM's CARD OF 'laws.FnExactPackAll'. -/
def fnExactPackAllUptoCard : Claim7 := { stood := { row := fnExactPackAllUptoRow, standIns := [], harness := (true, "7ed86b91d6a1f206cc5bdd466269eef4060e5b02dd21178697a832a4f6a11930"), looks := false }, kinds := [], alts := [], laidByText := true, laidKinds := [.data], laidTests := true, laidLooks := .later }
def FnExactPackAllUptoCardSaid : Prop := Claim7.holds Tryd.pinned (.plain (OpenSpec.upto fnExactPackAllSpec)) fnExactPackAllUptoCard
end Rows
end Go.Proofs.YtjmcjjbhkiebkaaDoor
