/-
  DERIVED. GIVEN WITH THE SEED: THE CARDS: each row of YtmoepaingfjojaaDoorRows.lean that lists a variable, with what it lists TIED to the program's text (the seventh form; the later family's looks); each row that meets fmt, with fmt's text TOLD by the authors' own Lean function (tested against real Go, not proved from fmt's source: count such statements apart). THE CARD IS WHAT COUNTS. Prove the row's statement (the work); the ties are given (YtmoepaingfjojaaDoorTie.lean); close each card by the builder's one call (the guide's Derived/Test/ToyasCard.lean, 'card_holds'). Laid BY PROGRAM, IN A SANDBOX (cutbox-door.mjs). By AI agents, Wed Nov 11 2026. No macro, syntax, notation, axiom, sorry.
-/
import Derived.Test.YtmoepaingfjojaaDoorRows
import GoSem.ClaimSeven
namespace Go.Proofs.YtmoepaingfjojaaDoor
namespace Rows

/-- THE TIED CARD OF 'laws.FnExactFieldView'. -/
def fnExactFieldViewCard : Claim7 := { stood := { row := fnExactFieldViewRow, standIns := [], harness := (true, "65bd420d89808806f8daaf7f608a7a39a52f9c65e59feb986e1092da406fd3f0"), looks := false }, kinds := [], alts := [], laidByText := true, laidKinds := [.data], laidTests := true, laidLooks := .later }
def FnExactFieldViewCardSaid : Prop := Claim7.holds Tryd.pinned (.plain (OpenSpec.ofChange fnExactFieldViewSpec)) fnExactFieldViewCard

/-- THE SECOND FORM's CARD OF 'laws.FnExactFieldView'. -/
def fnExactFieldViewUptoCard : Claim7 := { stood := { row := fnExactFieldViewUptoRow, standIns := [], harness := (true, "65bd420d89808806f8daaf7f608a7a39a52f9c65e59feb986e1092da406fd3f0"), looks := false }, kinds := [], alts := [], laidByText := true, laidKinds := [.data], laidTests := true, laidLooks := .later }
def FnExactFieldViewUptoCardSaid : Prop := Claim7.holds Tryd.pinned (.plain (OpenSpec.upto fnExactFieldViewSpec)) fnExactFieldViewUptoCard
end Rows
end Go.Proofs.YtmoepaingfjojaaDoor
