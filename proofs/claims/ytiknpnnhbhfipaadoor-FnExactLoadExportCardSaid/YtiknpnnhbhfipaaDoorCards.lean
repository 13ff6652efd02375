/-
  DERIVED. GIVEN WITH THE SEED: THE CARDS: each row of YtiknpnnhbhfipaaDoorRows.lean that lists a variable, with what it lists TIED to the program's text (the seventh form; the later family's looks); each row that meets fmt, with fmt's text TOLD by the authors' own Lean function (tested against real Go, not proved from fmt's source: count such statements apart). THE CARD IS WHAT COUNTS. Prove the row's statement (the work); the ties are given (YtiknpnnhbhfipaaDoorTie.lean); close each card by the builder's one call (the guide's Derived/Test/ToyasCard.lean, 'card_holds'). Laid BY PROGRAM, IN A SANDBOX (cutbox-door.mjs). By AI agents, Wed Nov 11 2026. No macro, syntax, notation, axiom, sorry.
-/
import Derived.Test.YtiknpnnhbhfipaaDoorRows
import GoSem.ClaimSeven
namespace Go.Proofs.YtiknpnnhbhfipaaDoor
namespace Rows

/-- THE TIED CARD OF 'laws.FnExactValidBuffer'. -/
def fnExactValidBufferCard : Claim7 := { stood := { row := fnExactValidBufferRow, standIns := [], harness := (true, "7ca59dead37d8aa909d98b2e37dfd91f275e82d7b32b459d9ebfdd1dbc43afbc"), looks := true }, kinds := [], alts := [], laidByText := true, laidKinds := [.sentinel], laidTests := true, laidLooks := .later }
def FnExactValidBufferCardSaid : Prop := Claim7.holds Tryd.pinned (.plain (OpenSpec.ofChange fnExactValidBufferSpec)) fnExactValidBufferCard

/-- THE TIED CARD OF 'laws.FnExactKidsOf'. -/
def fnExactKidsOfCard : Claim7 := { stood := { row := fnExactKidsOfRow, standIns := [], harness := (true, "7ca59dead37d8aa909d98b2e37dfd91f275e82d7b32b459d9ebfdd1dbc43afbc"), looks := true }, kinds := [], alts := [], laidByText := true, laidKinds := [.sentinel], laidTests := true, laidLooks := .later }
def FnExactKidsOfCardSaid : Prop := Claim7.holds Tryd.pinned (.plain (OpenSpec.ofChange fnExactKidsOfSpec)) fnExactKidsOfCard

/-- THE TIED CARD OF 'laws.FnExactOpenOf'. -/
def fnExactOpenOfCard : Claim7 := { stood := { row := fnExactOpenOfRow, standIns := [], harness := (true, "7ca59dead37d8aa909d98b2e37dfd91f275e82d7b32b459d9ebfdd1dbc43afbc"), looks := true }, kinds := [], alts := [], laidByText := true, laidKinds := [.sentinel], laidTests := true, laidLooks := .later }
def FnExactOpenOfCardSaid : Prop := Claim7.holds Tryd.pinned (.plain (OpenSpec.ofChange fnExactOpenOfSpec)) fnExactOpenOfCard

/-- THE TIED CARD OF 'laws.FnExactLoadExport'. -/
def fnExactLoadExportCard : Claim7 := { stood := { row := fnExactLoadExportRow, standIns := [], harness := (true, "7ca59dead37d8aa909d98b2e37dfd91f275e82d7b32b459d9ebfdd1dbc43afbc"), looks := true }, kinds := [], alts := [], laidByText := true, laidKinds := [.sentinel], laidTests := true, laidLooks := .later }
def FnExactLoadExportCardSaid : Prop := Claim7.holds Tryd.pinned (.plain (OpenSpec.ofChange fnExactLoadExportSpec)) fnExactLoadExportCard

/-- THE SECOND FORM's CARD OF 'laws.FnExactValidBuffer'. -/
def fnExactValidBufferUptoCard : Claim7 := { stood := { row := fnExactValidBufferUptoRow, standIns := [], harness := (true, "7ca59dead37d8aa909d98b2e37dfd91f275e82d7b32b459d9ebfdd1dbc43afbc"), looks := true }, kinds := [], alts := [], laidByText := true, laidKinds := [.sentinel], laidTests := true, laidLooks := .later }
def FnExactValidBufferUptoCardSaid : Prop := Claim7.holds Tryd.pinned (.plain (OpenSpec.upto fnExactValidBufferSpec)) fnExactValidBufferUptoCard

/-- THE SECOND FORM's CARD OF 'laws.FnExactKidsOf'. -/
def fnExactKidsOfUptoCard : Claim7 := { stood := { row := fnExactKidsOfUptoRow, standIns := [], harness := (true, "7ca59dead37d8aa909d98b2e37dfd91f275e82d7b32b459d9ebfdd1dbc43afbc"), looks := true }, kinds := [], alts := [], laidByText := true, laidKinds := [.sentinel], laidTests := true, laidLooks := .later }
def FnExactKidsOfUptoCardSaid : Prop := Claim7.holds Tryd.pinned (.plain (OpenSpec.upto fnExactKidsOfSpec)) fnExactKidsOfUptoCard

/-- THE SECOND FORM's CARD OF 'laws.FnExactOpenOf'. -/
def fnExactOpenOfUptoCard : Claim7 := { stood := { row := fnExactOpenOfUptoRow, standIns := [], harness := (true, "7ca59dead37d8aa909d98b2e37dfd91f275e82d7b32b459d9ebfdd1dbc43afbc"), looks := true }, kinds := [], alts := [], laidByText := true, laidKinds := [.sentinel], laidTests := true, laidLooks := .later }
def FnExactOpenOfUptoCardSaid : Prop := Claim7.holds Tryd.pinned (.plain (OpenSpec.upto fnExactOpenOfSpec)) fnExactOpenOfUptoCard

/-- THE SECOND FORM's CARD OF 'laws.FnExactLoadExport'. -/
def fnExactLoadExportUptoCard : Claim7 := { stood := { row := fnExactLoadExportUptoRow, standIns := [], harness := (true, "7ca59dead37d8aa909d98b2e37dfd91f275e82d7b32b459d9ebfdd1dbc43afbc"), looks := true }, kinds := [], alts := [], laidByText := true, laidKinds := [.sentinel], laidTests := true, laidLooks := .later }
def FnExactLoadExportUptoCardSaid : Prop := Claim7.holds Tryd.pinned (.plain (OpenSpec.upto fnExactLoadExportSpec)) fnExactLoadExportUptoCard
end Rows
end Go.Proofs.YtiknpnnhbhfipaaDoor
