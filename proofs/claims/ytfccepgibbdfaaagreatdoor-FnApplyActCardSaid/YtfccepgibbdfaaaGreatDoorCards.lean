/-
  DERIVED. GIVEN WITH THE SEED: THE CARDS: each row of YtfccepgibbdfaaaGreatDoorRows.lean that lists a variable, with what it lists TIED to the program's text (the seventh form; the later family's looks); each row that meets fmt, with fmt's text TOLD by the authors' own Lean function (tested against real Go, not proved from fmt's source: count such statements apart). THE CARD IS WHAT COUNTS. Prove the row's statement (the work); the ties are given (YtfccepgibbdfaaaGreatDoorTie.lean); close each card by the builder's one call (the guide's Derived/Test/ToyasCard.lean, 'card_holds'). Laid BY PROGRAM, IN A SANDBOX (cutbox-door.mjs). By AI agents, Wed Nov 11 2026. No macro, syntax, notation, axiom, sorry.
-/
import Derived.Test.YtfccepgibbdfaaaGreatDoorRows
import GoSem.ClaimSeven
namespace Go.Proofs.YtfccepgibbdfaaaGreatDoor
namespace Rows

/-- THE TIED CARD OF 'laws.FnExactApplyAct'. -/
def fnExactApplyActCard : Claim7 := { stood := { row := fnExactApplyActRow, standIns := [], harness := (true, "05df0b96cab095ca265196aa4909d31c21771cede7b21ffe9f32ca23eb10928c"), looks := true }, kinds := [], alts := [], laidByText := true, laidKinds := [.data, .data, .data, .sentinel, .data], laidTests := true, laidLooks := .later }
def FnExactApplyActCardSaid : Prop := Claim7.holds Tryz.pinned (.plain (OpenSpec.ofChange fnExactApplyActSpec)) fnExactApplyActCard

/-- THE TIED CARD OF 'laws.FnApplyAct'. -/
def fnApplyActCard : Claim7 := { stood := { row := fnApplyActRow, standIns := [], harness := (true, "05df0b96cab095ca265196aa4909d31c21771cede7b21ffe9f32ca23eb10928c"), looks := true }, kinds := [], alts := [], laidByText := true, laidKinds := [.data, .data, .data, .sentinel, .data], laidTests := true, laidLooks := .later }
def FnApplyActCardSaid : Prop := Claim7.holds Tryz.pinned (.plain (OpenSpec.ofChange fnApplyActSpec)) fnApplyActCard

/-- THE TIED CARD OF 'laws.FnApplyActOpen'. -/
def fnApplyActOpenCard : Claim7 := { stood := { row := fnApplyActOpenRow, standIns := [], harness := (true, "05df0b96cab095ca265196aa4909d31c21771cede7b21ffe9f32ca23eb10928c"), looks := true }, kinds := [], alts := [], laidByText := true, laidKinds := [.data, .data, .data, .sentinel, .data], laidTests := true, laidLooks := .later }
def FnApplyActOpenCardSaid : Prop := Claim7.holds Tryz.pinned (.plain (OpenSpec.ofChange fnApplyActOpenSpec)) fnApplyActOpenCard

/-- THE SECOND FORM's CARD OF 'laws.FnExactApplyAct'. -/
def fnExactApplyActUptoCard : Claim7 := { stood := { row := fnExactApplyActUptoRow, standIns := [], harness := (true, "05df0b96cab095ca265196aa4909d31c21771cede7b21ffe9f32ca23eb10928c"), looks := true }, kinds := [], alts := [], laidByText := true, laidKinds := [.data, .data, .data, .sentinel, .data], laidTests := true, laidLooks := .later }
def FnExactApplyActUptoCardSaid : Prop := Claim7.holds Tryz.pinned (.plain (OpenSpec.upto fnExactApplyActSpec)) fnExactApplyActUptoCard

/-- THE SECOND FORM's CARD OF 'laws.FnApplyAct'. -/
def fnApplyActUptoCard : Claim7 := { stood := { row := fnApplyActUptoRow, standIns := [], harness := (true, "05df0b96cab095ca265196aa4909d31c21771cede7b21ffe9f32ca23eb10928c"), looks := true }, kinds := [], alts := [], laidByText := true, laidKinds := [.data, .data, .data, .sentinel, .data], laidTests := true, laidLooks := .later }
def FnApplyActUptoCardSaid : Prop := Claim7.holds Tryz.pinned (.plain (OpenSpec.upto fnApplyActSpec)) fnApplyActUptoCard

/-- THE SECOND FORM's CARD OF 'laws.FnApplyActOpen'. -/
def fnApplyActOpenUptoCard : Claim7 := { stood := { row := fnApplyActOpenUptoRow, standIns := [], harness := (true, "05df0b96cab095ca265196aa4909d31c21771cede7b21ffe9f32ca23eb10928c"), looks := true }, kinds := [], alts := [], laidByText := true, laidKinds := [.data, .data, .data, .sentinel, .data], laidTests := true, laidLooks := .later }
def FnApplyActOpenUptoCardSaid : Prop := Claim7.holds Tryz.pinned (.plain (OpenSpec.upto fnApplyActOpenSpec)) fnApplyActOpenUptoCard
end Rows
end Go.Proofs.YtfccepgibbdfaaaGreatDoor
