/-
  DERIVED. GIVEN WITH THE SEED: THE CARDS: each row of YtkpcjppnjmhanaaGreatDoorRows.lean that lists a variable, with what it lists TIED to the program's text (the seventh form; the later family's looks); each row that meets fmt, with fmt's text TOLD by the authors' own Lean function (tested against real Go, not proved from fmt's source: count such statements apart). THE CARD IS WHAT COUNTS. Prove the row's statement (the work); the ties are given (YtkpcjppnjmhanaaGreatDoorTie.lean); close each card by the builder's one call (the guide's Derived/Test/ToyasCard.lean, 'card_holds'). Laid BY PROGRAM, IN A SANDBOX (cutbox-door.mjs). By AI agents, Wed Nov 11 2026. No macro, syntax, notation, axiom, sorry.
-/
import Derived.Test.YtkpcjppnjmhanaaGreatDoorRows
import GoSem.ClaimSeven
namespace Go.Proofs.YtkpcjppnjmhanaaGreatDoor
namespace Rows

/-- THE TIED CARD OF 'laws.FnReleaseExport'. -/
def fnReleaseExportCard : Claim7 := { stood := { row := fnReleaseExportRow, standIns := [], harness := (true, "c397bddbcf19e8e4cbc5392afd75a3686c13b326eae50dba917128744084d8b0"), looks := true }, kinds := [], alts := [], laidByText := true, laidKinds := [.sentinel], laidTests := true, laidLooks := .later }
def FnReleaseExportCardSaid : Prop := Claim7.holds Tryz.pinned (.plain (OpenSpec.ofChange fnReleaseExportSpec)) fnReleaseExportCard

/-- THE TIED CARD OF 'laws.FnLoadExport'. -/
def fnLoadExportCard : Claim7 := { stood := { row := fnLoadExportRow, standIns := [], harness := (true, "c397bddbcf19e8e4cbc5392afd75a3686c13b326eae50dba917128744084d8b0"), looks := true }, kinds := [], alts := [], laidByText := true, laidKinds := [.sentinel], laidTests := true, laidLooks := .later }
def FnLoadExportCardSaid : Prop := Claim7.holds Tryz.pinned (.plain (OpenSpec.ofChange fnLoadExportSpec)) fnLoadExportCard

/-- THE TIED CARD OF 'laws.FnFillExport'. -/
def fnFillExportCard : Claim7 := { stood := { row := fnFillExportRow, standIns := [], harness := (true, "c397bddbcf19e8e4cbc5392afd75a3686c13b326eae50dba917128744084d8b0"), looks := true }, kinds := [], alts := [], laidByText := true, laidKinds := [.sentinel], laidTests := true, laidLooks := .later }
def FnFillExportCardSaid : Prop := Claim7.holds Tryz.pinned (.plain (OpenSpec.ofChange fnFillExportSpec)) fnFillExportCard

/-- THE TIED CARD OF 'laws.FnCopyExport'. -/
def fnCopyExportCard : Claim7 := { stood := { row := fnCopyExportRow, standIns := [], harness := (true, "c397bddbcf19e8e4cbc5392afd75a3686c13b326eae50dba917128744084d8b0"), looks := true }, kinds := [], alts := [], laidByText := true, laidKinds := [.sentinel], laidTests := true, laidLooks := .later }
def FnCopyExportCardSaid : Prop := Claim7.holds Tryz.pinned (.plain (OpenSpec.ofChange fnCopyExportSpec)) fnCopyExportCard

/-- THE TIED CARD OF 'laws.FnExportView'. -/
def fnExportViewCard : Claim7 := { stood := { row := fnExportViewRow, standIns := [], harness := (true, "c397bddbcf19e8e4cbc5392afd75a3686c13b326eae50dba917128744084d8b0"), looks := true }, kinds := [], alts := [], laidByText := true, laidKinds := [.sentinel], laidTests := true, laidLooks := .later }
def FnExportViewCardSaid : Prop := Claim7.holds Tryz.pinned (.plain (OpenSpec.ofChange fnExportViewSpec)) fnExportViewCard

/-- THE TIED CARD OF 'laws.FnExportPart'. -/
def fnExportPartCard : Claim7 := { stood := { row := fnExportPartRow, standIns := [], harness := (true, "c397bddbcf19e8e4cbc5392afd75a3686c13b326eae50dba917128744084d8b0"), looks := true }, kinds := [], alts := [], laidByText := true, laidKinds := [.sentinel], laidTests := true, laidLooks := .later }
def FnExportPartCardSaid : Prop := Claim7.holds Tryz.pinned (.plain (OpenSpec.ofChange fnExportPartSpec)) fnExportPartCard

/-- THE SECOND FORM's CARD OF 'laws.FnReleaseExport'. -/
def fnReleaseExportUptoCard : Claim7 := { stood := { row := fnReleaseExportUptoRow, standIns := [], harness := (true, "c397bddbcf19e8e4cbc5392afd75a3686c13b326eae50dba917128744084d8b0"), looks := true }, kinds := [], alts := [], laidByText := true, laidKinds := [.sentinel], laidTests := true, laidLooks := .later }
def FnReleaseExportUptoCardSaid : Prop := Claim7.holds Tryz.pinned (.plain (OpenSpec.upto fnReleaseExportSpec)) fnReleaseExportUptoCard

/-- THE SECOND FORM's CARD OF 'laws.FnLoadExport'. -/
def fnLoadExportUptoCard : Claim7 := { stood := { row := fnLoadExportUptoRow, standIns := [], harness := (true, "c397bddbcf19e8e4cbc5392afd75a3686c13b326eae50dba917128744084d8b0"), looks := true }, kinds := [], alts := [], laidByText := true, laidKinds := [.sentinel], laidTests := true, laidLooks := .later }
def FnLoadExportUptoCardSaid : Prop := Claim7.holds Tryz.pinned (.plain (OpenSpec.upto fnLoadExportSpec)) fnLoadExportUptoCard

/-- THE SECOND FORM's CARD OF 'laws.FnFillExport'. -/
def fnFillExportUptoCard : Claim7 := { stood := { row := fnFillExportUptoRow, standIns := [], harness := (true, "c397bddbcf19e8e4cbc5392afd75a3686c13b326eae50dba917128744084d8b0"), looks := true }, kinds := [], alts := [], laidByText := true, laidKinds := [.sentinel], laidTests := true, laidLooks := .later }
def FnFillExportUptoCardSaid : Prop := Claim7.holds Tryz.pinned (.plain (OpenSpec.upto fnFillExportSpec)) fnFillExportUptoCard

/-- THE SECOND FORM's CARD OF 'laws.FnCopyExport'. -/
def fnCopyExportUptoCard : Claim7 := { stood := { row := fnCopyExportUptoRow, standIns := [], harness := (true, "c397bddbcf19e8e4cbc5392afd75a3686c13b326eae50dba917128744084d8b0"), looks := true }, kinds := [], alts := [], laidByText := true, laidKinds := [.sentinel], laidTests := true, laidLooks := .later }
def FnCopyExportUptoCardSaid : Prop := Claim7.holds Tryz.pinned (.plain (OpenSpec.upto fnCopyExportSpec)) fnCopyExportUptoCard

/-- THE SECOND FORM's CARD OF 'laws.FnExportView'. -/
def fnExportViewUptoCard : Claim7 := { stood := { row := fnExportViewUptoRow, standIns := [], harness := (true, "c397bddbcf19e8e4cbc5392afd75a3686c13b326eae50dba917128744084d8b0"), looks := true }, kinds := [], alts := [], laidByText := true, laidKinds := [.sentinel], laidTests := true, laidLooks := .later }
def FnExportViewUptoCardSaid : Prop := Claim7.holds Tryz.pinned (.plain (OpenSpec.upto fnExportViewSpec)) fnExportViewUptoCard

/-- THE SECOND FORM's CARD OF 'laws.FnExportPart'. -/
def fnExportPartUptoCard : Claim7 := { stood := { row := fnExportPartUptoRow, standIns := [], harness := (true, "c397bddbcf19e8e4cbc5392afd75a3686c13b326eae50dba917128744084d8b0"), looks := true }, kinds := [], alts := [], laidByText := true, laidKinds := [.sentinel], laidTests := true, laidLooks := .later }
def FnExportPartUptoCardSaid : Prop := Claim7.holds Tryz.pinned (.plain (OpenSpec.upto fnExportPartSpec)) fnExportPartUptoCard
end Rows
end Go.Proofs.YtkpcjppnjmhanaaGreatDoor
