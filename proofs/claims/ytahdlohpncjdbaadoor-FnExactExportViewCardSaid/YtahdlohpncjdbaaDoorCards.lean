/-
  DERIVED. GIVEN WITH THE SEED: THE CARDS: each row of YtahdlohpncjdbaaDoorRows.lean that lists a variable, with what it lists TIED to the program's text (the seventh form; the later family's looks); each row that meets fmt, with fmt's text TOLD by the authors' own Lean function (tested against real Go, not proved from fmt's source: count such statements apart). THE CARD IS WHAT COUNTS. Prove the row's statement (the work); the ties are given (YtahdlohpncjdbaaDoorTie.lean); close each card by the builder's one call (the guide's Derived/Test/ToyasCard.lean, 'card_holds'). Laid BY PROGRAM, IN A SANDBOX (cutbox-door.mjs). By AI agents, Wed Nov 11 2026. No macro, syntax, notation, axiom, sorry.
-/
import Derived.Test.YtahdlohpncjdbaaDoorRows
import GoSem.ClaimSeven
namespace Go.Proofs.YtahdlohpncjdbaaDoor
namespace Rows

/-- THE TIED CARD OF 'laws.FnExactReleaseExport'. -/
def fnExactReleaseExportCard : Claim7 := { stood := { row := fnExactReleaseExportRow, standIns := [], harness := (true, "abe0f32aa49d6f87c0bced0e13fd74cd663330c3fd75a3f6e0860fb029615848"), looks := true }, kinds := [], alts := [], laidByText := true, laidKinds := [.sentinel], laidTests := true, laidLooks := .later }
def FnExactReleaseExportCardSaid : Prop := Claim7.holds Tryd.pinned (.plain (OpenSpec.ofChange fnExactReleaseExportSpec)) fnExactReleaseExportCard

/-- THE TIED CARD OF 'laws.FnExactFillExport'. -/
def fnExactFillExportCard : Claim7 := { stood := { row := fnExactFillExportRow, standIns := [], harness := (true, "abe0f32aa49d6f87c0bced0e13fd74cd663330c3fd75a3f6e0860fb029615848"), looks := true }, kinds := [], alts := [], laidByText := true, laidKinds := [.sentinel], laidTests := true, laidLooks := .later }
def FnExactFillExportCardSaid : Prop := Claim7.holds Tryd.pinned (.plain (OpenSpec.ofChange fnExactFillExportSpec)) fnExactFillExportCard

/-- THE TIED CARD OF 'laws.FnExactCopyExport'. -/
def fnExactCopyExportCard : Claim7 := { stood := { row := fnExactCopyExportRow, standIns := [], harness := (true, "abe0f32aa49d6f87c0bced0e13fd74cd663330c3fd75a3f6e0860fb029615848"), looks := true }, kinds := [], alts := [], laidByText := true, laidKinds := [.sentinel], laidTests := true, laidLooks := .later }
def FnExactCopyExportCardSaid : Prop := Claim7.holds Tryd.pinned (.plain (OpenSpec.ofChange fnExactCopyExportSpec)) fnExactCopyExportCard

/-- THE TIED CARD OF 'laws.FnExactResizeBuffer'. -/
def fnExactResizeBufferCard : Claim7 := { stood := { row := fnExactResizeBufferRow, standIns := [], harness := (true, "abe0f32aa49d6f87c0bced0e13fd74cd663330c3fd75a3f6e0860fb029615848"), looks := true }, kinds := [], alts := [], laidByText := true, laidKinds := [.sentinel], laidTests := true, laidLooks := .later }
def FnExactResizeBufferCardSaid : Prop := Claim7.holds Tryd.pinned (.plain (OpenSpec.ofChange fnExactResizeBufferSpec)) fnExactResizeBufferCard

/-- THE TIED CARD OF 'laws.FnExactExportView'. -/
def fnExactExportViewCard : Claim7 := { stood := { row := fnExactExportViewRow, standIns := [], harness := (true, "abe0f32aa49d6f87c0bced0e13fd74cd663330c3fd75a3f6e0860fb029615848"), looks := true }, kinds := [], alts := [], laidByText := true, laidKinds := [.sentinel], laidTests := true, laidLooks := .later }
def FnExactExportViewCardSaid : Prop := Claim7.holds Tryd.pinned (.plain (OpenSpec.ofChange fnExactExportViewSpec)) fnExactExportViewCard

/-- THE SECOND FORM's CARD OF 'laws.FnExactReleaseExport'. -/
def fnExactReleaseExportUptoCard : Claim7 := { stood := { row := fnExactReleaseExportUptoRow, standIns := [], harness := (true, "abe0f32aa49d6f87c0bced0e13fd74cd663330c3fd75a3f6e0860fb029615848"), looks := true }, kinds := [], alts := [], laidByText := true, laidKinds := [.sentinel], laidTests := true, laidLooks := .later }
def FnExactReleaseExportUptoCardSaid : Prop := Claim7.holds Tryd.pinned (.plain (OpenSpec.upto fnExactReleaseExportSpec)) fnExactReleaseExportUptoCard

/-- THE SECOND FORM's CARD OF 'laws.FnExactFillExport'. -/
def fnExactFillExportUptoCard : Claim7 := { stood := { row := fnExactFillExportUptoRow, standIns := [], harness := (true, "abe0f32aa49d6f87c0bced0e13fd74cd663330c3fd75a3f6e0860fb029615848"), looks := true }, kinds := [], alts := [], laidByText := true, laidKinds := [.sentinel], laidTests := true, laidLooks := .later }
def FnExactFillExportUptoCardSaid : Prop := Claim7.holds Tryd.pinned (.plain (OpenSpec.upto fnExactFillExportSpec)) fnExactFillExportUptoCard

/-- THE SECOND FORM's CARD OF 'laws.FnExactCopyExport'. -/
def fnExactCopyExportUptoCard : Claim7 := { stood := { row := fnExactCopyExportUptoRow, standIns := [], harness := (true, "abe0f32aa49d6f87c0bced0e13fd74cd663330c3fd75a3f6e0860fb029615848"), looks := true }, kinds := [], alts := [], laidByText := true, laidKinds := [.sentinel], laidTests := true, laidLooks := .later }
def FnExactCopyExportUptoCardSaid : Prop := Claim7.holds Tryd.pinned (.plain (OpenSpec.upto fnExactCopyExportSpec)) fnExactCopyExportUptoCard

/-- THE SECOND FORM's CARD OF 'laws.FnExactResizeBuffer'. -/
def fnExactResizeBufferUptoCard : Claim7 := { stood := { row := fnExactResizeBufferUptoRow, standIns := [], harness := (true, "abe0f32aa49d6f87c0bced0e13fd74cd663330c3fd75a3f6e0860fb029615848"), looks := true }, kinds := [], alts := [], laidByText := true, laidKinds := [.sentinel], laidTests := true, laidLooks := .later }
def FnExactResizeBufferUptoCardSaid : Prop := Claim7.holds Tryd.pinned (.plain (OpenSpec.upto fnExactResizeBufferSpec)) fnExactResizeBufferUptoCard

/-- THE SECOND FORM's CARD OF 'laws.FnExactExportView'. -/
def fnExactExportViewUptoCard : Claim7 := { stood := { row := fnExactExportViewUptoRow, standIns := [], harness := (true, "abe0f32aa49d6f87c0bced0e13fd74cd663330c3fd75a3f6e0860fb029615848"), looks := true }, kinds := [], alts := [], laidByText := true, laidKinds := [.sentinel], laidTests := true, laidLooks := .later }
def FnExactExportViewUptoCardSaid : Prop := Claim7.holds Tryd.pinned (.plain (OpenSpec.upto fnExactExportViewSpec)) fnExactExportViewUptoCard
end Rows
end Go.Proofs.YtahdlohpncjdbaaDoor
