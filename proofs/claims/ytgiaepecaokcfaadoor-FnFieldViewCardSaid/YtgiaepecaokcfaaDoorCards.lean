/-
  DERIVED. GIVEN WITH THE SEED: THE CARDS: each row of YtgiaepecaokcfaaDoorRows.lean that lists a variable, with what it lists TIED to the program's text (the seventh form; the later family's looks); each row that meets fmt, with fmt's text TOLD by the authors' own Lean function (tested against real Go, not proved from fmt's source: count such statements apart). THE CARD IS WHAT COUNTS. Prove the row's statement (the work); the ties are given (YtgiaepecaokcfaaDoorTie.lean); close each card by the builder's one call (the guide's Derived/Test/ToyasCard.lean, 'card_holds'). Laid BY PROGRAM, IN A SANDBOX (cutbox-door.mjs). By AI agents, Wed Nov 11 2026. No macro, syntax, notation, axiom, sorry.
-/
import Derived.Test.YtgiaepecaokcfaaDoorRows
import GoSem.ClaimSeven
namespace Go.Proofs.YtgiaepecaokcfaaDoor
namespace Rows

/-- THE TIED CARD OF 'laws.FnFieldView'. -/
def fnFieldViewCard : Claim7 := { stood := { row := fnFieldViewRow, standIns := [], harness := (true, "2bca7b9f9c666a2efaf04165743dc6aceb46ec0ee28da9f44b006793fce5c26c"), looks := false }, kinds := [], alts := [], laidByText := true, laidKinds := [.data], laidTests := true, laidLooks := .later }
def FnFieldViewCardSaid : Prop := Claim7.holds Tryd.pinned (.plain (OpenSpec.ofChange fnFieldViewSpec)) fnFieldViewCard

/-- THE SECOND FORM's CARD OF 'laws.FnFieldView'. -/
def fnFieldViewUptoCard : Claim7 := { stood := { row := fnFieldViewUptoRow, standIns := [], harness := (true, "2bca7b9f9c666a2efaf04165743dc6aceb46ec0ee28da9f44b006793fce5c26c"), looks := false }, kinds := [], alts := [], laidByText := true, laidKinds := [.data], laidTests := true, laidLooks := .later }
def FnFieldViewUptoCardSaid : Prop := Claim7.holds Tryd.pinned (.plain (OpenSpec.upto fnFieldViewSpec)) fnFieldViewUptoCard
end Rows
end Go.Proofs.YtgiaepecaokcfaaDoor
