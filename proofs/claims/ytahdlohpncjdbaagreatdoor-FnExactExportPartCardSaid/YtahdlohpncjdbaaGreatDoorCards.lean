/-
  DERIVED. GIVEN WITH THE SEED: THE CARDS: each row of YtahdlohpncjdbaaGreatDoorRows.lean that lists a variable, with what it lists TIED to the program's text (the seventh form; the later family's looks); each row that meets fmt, with fmt's text TOLD by the authors' own Lean function (tested against real Go, not proved from fmt's source: count such statements apart). THE CARD IS WHAT COUNTS. Prove the row's statement (the work); the ties are given (YtahdlohpncjdbaaGreatDoorTie.lean); close each card by the builder's one call (the guide's Derived/Test/ToyasCard.lean, 'card_holds'). Laid BY PROGRAM, IN A SANDBOX (cutbox-door.mjs). By AI agents, Wed Nov 11 2026. No macro, syntax, notation, axiom, sorry.
-/
import Derived.Test.YtahdlohpncjdbaaGreatDoorRows
import GoSem.ClaimSeven
namespace Go.Proofs.YtahdlohpncjdbaaGreatDoor
namespace Rows

/-- THE TIED CARD OF 'laws.FnExactExportPart'. -/
def fnExactExportPartCard : Claim7 := { stood := { row := fnExactExportPartRow, standIns := [], harness := (true, "a9a7d3a5770a7ddb2ebd6ac2d4d9eea998614e5777f2743776c92dbe17049e12"), looks := true }, kinds := [], alts := [], laidByText := true, laidKinds := [.sentinel], laidTests := true, laidLooks := .later }
def FnExactExportPartCardSaid : Prop := Claim7.holds Tryz.pinned (.plain (OpenSpec.ofChange fnExactExportPartSpec)) fnExactExportPartCard

/-- THE SECOND FORM's CARD OF 'laws.FnExactExportPart'. -/
def fnExactExportPartUptoCard : Claim7 := { stood := { row := fnExactExportPartUptoRow, standIns := [], harness := (true, "a9a7d3a5770a7ddb2ebd6ac2d4d9eea998614e5777f2743776c92dbe17049e12"), looks := true }, kinds := [], alts := [], laidByText := true, laidKinds := [.sentinel], laidTests := true, laidLooks := .later }
def FnExactExportPartUptoCardSaid : Prop := Claim7.holds Tryz.pinned (.plain (OpenSpec.upto fnExactExportPartSpec)) fnExactExportPartUptoCard
end Rows
end Go.Proofs.YtahdlohpncjdbaaGreatDoor
