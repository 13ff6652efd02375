/-
  DERIVED. GIVEN WITH THE SEED: THE CARDS: each row of YtekojnkaikbeaaaDoorRows.lean that lists a variable, with what it lists TIED to the program's text (the seventh form; the later family's looks); each row that meets fmt, with fmt's text TOLD by the authors' own Lean function (tested against real Go, not proved from fmt's source: count such statements apart). THE CARD IS WHAT COUNTS. Prove the row's statement (the work); the ties are given (YtekojnkaikbeaaaDoorTie.lean); close each card by the builder's one call (the guide's Derived/Test/ToyasCard.lean, 'card_holds'). Laid BY PROGRAM, IN A SANDBOX (cutbox-door.mjs). By AI agents, Wed Nov 11 2026. No macro, syntax, notation, axiom, sorry.
-/
import Derived.Test.YtekojnkaikbeaaaDoorRows
import GoSem.ClaimSeven
namespace Go.Proofs.YtekojnkaikbeaaaDoor
namespace Rows

/-- THE TIED CARD OF 'laws.FnExactValidFormat'. -/
def fnExactValidFormatCard : Claim7 := { stood := { row := fnExactValidFormatRow, standIns := [], harness := (true, "34cde0bddf7d922f0e7710304d8c1280b0c3ddd0017de3bcca3fa17489ae1a33"), looks := false }, kinds := [], alts := [], laidByText := true, laidKinds := [.data], laidTests := true, laidLooks := .later }
def FnExactValidFormatCardSaid : Prop := Claim7.holds Tryd.pinned (.plain (OpenSpec.ofChange fnExactValidFormatSpec)) fnExactValidFormatCard

/-- THE TIED CARD OF 'laws.FnExactPlacesOf'. -/
def fnExactPlacesOfCard : Claim7 := { stood := { row := fnExactPlacesOfRow, standIns := [], harness := (true, "34cde0bddf7d922f0e7710304d8c1280b0c3ddd0017de3bcca3fa17489ae1a33"), looks := false }, kinds := [], alts := [], laidByText := true, laidKinds := [.data], laidTests := true, laidLooks := .later }
def FnExactPlacesOfCardSaid : Prop := Claim7.holds Tryd.pinned (.plain (OpenSpec.ofChange fnExactPlacesOfSpec)) fnExactPlacesOfCard

/-- THE TIED CARD OF 'laws.FnExactItemSize'. -/
def fnExactItemSizeCard : Claim7 := { stood := { row := fnExactItemSizeRow, standIns := [], harness := (true, "34cde0bddf7d922f0e7710304d8c1280b0c3ddd0017de3bcca3fa17489ae1a33"), looks := false }, kinds := [], alts := [], laidByText := true, laidKinds := [.data], laidTests := true, laidLooks := .later }
def FnExactItemSizeCardSaid : Prop := Claim7.holds Tryd.pinned (.plain (OpenSpec.ofChange fnExactItemSizeSpec)) fnExactItemSizeCard

/-- THE TIED CARD OF 'laws.FnExactPaddingOf'. -/
def fnExactPaddingOfCard : Claim7 := { stood := { row := fnExactPaddingOfRow, standIns := [], harness := (true, "34cde0bddf7d922f0e7710304d8c1280b0c3ddd0017de3bcca3fa17489ae1a33"), looks := false }, kinds := [], alts := [], laidByText := true, laidKinds := [.data], laidTests := true, laidLooks := .later }
def FnExactPaddingOfCardSaid : Prop := Claim7.holds Tryd.pinned (.plain (OpenSpec.ofChange fnExactPaddingOfSpec)) fnExactPaddingOfCard

/-- THE TIED CARD OF 'laws.FnExactPackItem'. -/
def fnExactPackItemCard : Claim7 := { stood := { row := fnExactPackItemRow, standIns := [], harness := (true, "34cde0bddf7d922f0e7710304d8c1280b0c3ddd0017de3bcca3fa17489ae1a33"), looks := false }, kinds := [], alts := [], laidByText := true, laidKinds := [.data], laidTests := true, laidLooks := .later }
def FnExactPackItemCardSaid : Prop := Claim7.holds Tryd.pinned (.plain (OpenSpec.ofChange fnExactPackItemSpec)) fnExactPackItemCard

/-- THE TIED CARD OF 'laws.FnExactUnpackItem'. -/
def fnExactUnpackItemCard : Claim7 := { stood := { row := fnExactUnpackItemRow, standIns := [], harness := (true, "34cde0bddf7d922f0e7710304d8c1280b0c3ddd0017de3bcca3fa17489ae1a33"), looks := false }, kinds := [], alts := [], laidByText := true, laidKinds := [.data], laidTests := true, laidLooks := .later }
def FnExactUnpackItemCardSaid : Prop := Claim7.holds Tryd.pinned (.plain (OpenSpec.ofChange fnExactUnpackItemSpec)) fnExactUnpackItemCard

/-- THE TIED CARD OF 'laws.FnExactPackAll'. -/
def fnExactPackAllCard : Claim7 := { stood := { row := fnExactPackAllRow, standIns := [], harness := (true, "34cde0bddf7d922f0e7710304d8c1280b0c3ddd0017de3bcca3fa17489ae1a33"), looks := false }, kinds := [], alts := [], laidByText := true, laidKinds := [.data], laidTests := true, laidLooks := .later }
def FnExactPackAllCardSaid : Prop := Claim7.holds Tryd.pinned (.plain (OpenSpec.ofChange fnExactPackAllSpec)) fnExactPackAllCard

/-- THE TIED CARD OF 'laws.FnExactUnpackAll'. -/
def fnExactUnpackAllCard : Claim7 := { stood := { row := fnExactUnpackAllRow, standIns := [], harness := (true, "34cde0bddf7d922f0e7710304d8c1280b0c3ddd0017de3bcca3fa17489ae1a33"), looks := false }, kinds := [], alts := [], laidByText := true, laidKinds := [.data], laidTests := true, laidLooks := .later }
def FnExactUnpackAllCardSaid : Prop := Claim7.holds Tryd.pinned (.plain (OpenSpec.ofChange fnExactUnpackAllSpec)) fnExactUnpackAllCard

/-- THE TIED CARD OF 'laws.FnExactFieldView'. -/
def fnExactFieldViewCard : Claim7 := { stood := { row := fnExactFieldViewRow, standIns := [], harness := (true, "34cde0bddf7d922f0e7710304d8c1280b0c3ddd0017de3bcca3fa17489ae1a33"), looks := false }, kinds := [], alts := [], laidByText := true, laidKinds := [.data], laidTests := true, laidLooks := .later }
def FnExactFieldViewCardSaid : Prop := Claim7.holds Tryd.pinned (.plain (OpenSpec.ofChange fnExactFieldViewSpec)) fnExactFieldViewCard

/-- THE TIED CARD OF 'laws.FnExactSwapBytes'. -/
def fnExactSwapBytesCard : Claim7 := { stood := { row := fnExactSwapBytesRow, standIns := [], harness := (true, "34cde0bddf7d922f0e7710304d8c1280b0c3ddd0017de3bcca3fa17489ae1a33"), looks := false }, kinds := [], alts := [], laidByText := true, laidKinds := [.data], laidTests := true, laidLooks := .later }
def FnExactSwapBytesCardSaid : Prop := Claim7.holds Tryd.pinned (.plain (OpenSpec.ofChange fnExactSwapBytesSpec)) fnExactSwapBytesCard

/-- THE SECOND FORM's CARD OF 'laws.FnExactValidFormat'. -/
def fnExactValidFormatUptoCard : Claim7 := { stood := { row := fnExactValidFormatUptoRow, standIns := [], harness := (true, "34cde0bddf7d922f0e7710304d8c1280b0c3ddd0017de3bcca3fa17489ae1a33"), looks := false }, kinds := [], alts := [], laidByText := true, laidKinds := [.data], laidTests := true, laidLooks := .later }
def FnExactValidFormatUptoCardSaid : Prop := Claim7.holds Tryd.pinned (.plain (OpenSpec.upto fnExactValidFormatSpec)) fnExactValidFormatUptoCard

/-- THE SECOND FORM's CARD OF 'laws.FnExactPlacesOf'. -/
def fnExactPlacesOfUptoCard : Claim7 := { stood := { row := fnExactPlacesOfUptoRow, standIns := [], harness := (true, "34cde0bddf7d922f0e7710304d8c1280b0c3ddd0017de3bcca3fa17489ae1a33"), looks := false }, kinds := [], alts := [], laidByText := true, laidKinds := [.data], laidTests := true, laidLooks := .later }
def FnExactPlacesOfUptoCardSaid : Prop := Claim7.holds Tryd.pinned (.plain (OpenSpec.upto fnExactPlacesOfSpec)) fnExactPlacesOfUptoCard

/-- THE SECOND FORM's CARD OF 'laws.FnExactItemSize'. -/
def fnExactItemSizeUptoCard : Claim7 := { stood := { row := fnExactItemSizeUptoRow, standIns := [], harness := (true, "34cde0bddf7d922f0e7710304d8c1280b0c3ddd0017de3bcca3fa17489ae1a33"), looks := false }, kinds := [], alts := [], laidByText := true, laidKinds := [.data], laidTests := true, laidLooks := .later }
def FnExactItemSizeUptoCardSaid : Prop := Claim7.holds Tryd.pinned (.plain (OpenSpec.upto fnExactItemSizeSpec)) fnExactItemSizeUptoCard

/-- THE SECOND FORM's CARD OF 'laws.FnExactPaddingOf'. -/
def fnExactPaddingOfUptoCard : Claim7 := { stood := { row := fnExactPaddingOfUptoRow, standIns := [], harness := (true, "34cde0bddf7d922f0e7710304d8c1280b0c3ddd0017de3bcca3fa17489ae1a33"), looks := false }, kinds := [], alts := [], laidByText := true, laidKinds := [.data], laidTests := true, laidLooks := .later }
def FnExactPaddingOfUptoCardSaid : Prop := Claim7.holds Tryd.pinned (.plain (OpenSpec.upto fnExactPaddingOfSpec)) fnExactPaddingOfUptoCard

/-- THE SECOND FORM's CARD OF 'laws.FnExactPackItem'. -/
def fnExactPackItemUptoCard : Claim7 := { stood := { row := fnExactPackItemUptoRow, standIns := [], harness := (true, "34cde0bddf7d922f0e7710304d8c1280b0c3ddd0017de3bcca3fa17489ae1a33"), looks := false }, kinds := [], alts := [], laidByText := true, laidKinds := [.data], laidTests := true, laidLooks := .later }
def FnExactPackItemUptoCardSaid : Prop := Claim7.holds Tryd.pinned (.plain (OpenSpec.upto fnExactPackItemSpec)) fnExactPackItemUptoCard

/-- THE SECOND FORM's CARD OF 'laws.FnExactUnpackItem'. -/
def fnExactUnpackItemUptoCard : Claim7 := { stood := { row := fnExactUnpackItemUptoRow, standIns := [], harness := (true, "34cde0bddf7d922f0e7710304d8c1280b0c3ddd0017de3bcca3fa17489ae1a33"), looks := false }, kinds := [], alts := [], laidByText := true, laidKinds := [.data], laidTests := true, laidLooks := .later }
def FnExactUnpackItemUptoCardSaid : Prop := Claim7.holds Tryd.pinned (.plain (OpenSpec.upto fnExactUnpackItemSpec)) fnExactUnpackItemUptoCard

/-- THE SECOND FORM's CARD OF 'laws.FnExactPackAll'. -/
def fnExactPackAllUptoCard : Claim7 := { stood := { row := fnExactPackAllUptoRow, standIns := [], harness := (true, "34cde0bddf7d922f0e7710304d8c1280b0c3ddd0017de3bcca3fa17489ae1a33"), looks := false }, kinds := [], alts := [], laidByText := true, laidKinds := [.data], laidTests := true, laidLooks := .later }
def FnExactPackAllUptoCardSaid : Prop := Claim7.holds Tryd.pinned (.plain (OpenSpec.upto fnExactPackAllSpec)) fnExactPackAllUptoCard

/-- THE SECOND FORM's CARD OF 'laws.FnExactUnpackAll'. -/
def fnExactUnpackAllUptoCard : Claim7 := { stood := { row := fnExactUnpackAllUptoRow, standIns := [], harness := (true, "34cde0bddf7d922f0e7710304d8c1280b0c3ddd0017de3bcca3fa17489ae1a33"), looks := false }, kinds := [], alts := [], laidByText := true, laidKinds := [.data], laidTests := true, laidLooks := .later }
def FnExactUnpackAllUptoCardSaid : Prop := Claim7.holds Tryd.pinned (.plain (OpenSpec.upto fnExactUnpackAllSpec)) fnExactUnpackAllUptoCard

/-- THE SECOND FORM's CARD OF 'laws.FnExactFieldView'. -/
def fnExactFieldViewUptoCard : Claim7 := { stood := { row := fnExactFieldViewUptoRow, standIns := [], harness := (true, "34cde0bddf7d922f0e7710304d8c1280b0c3ddd0017de3bcca3fa17489ae1a33"), looks := false }, kinds := [], alts := [], laidByText := true, laidKinds := [.data], laidTests := true, laidLooks := .later }
def FnExactFieldViewUptoCardSaid : Prop := Claim7.holds Tryd.pinned (.plain (OpenSpec.upto fnExactFieldViewSpec)) fnExactFieldViewUptoCard

/-- THE SECOND FORM's CARD OF 'laws.FnExactSwapBytes'. -/
def fnExactSwapBytesUptoCard : Claim7 := { stood := { row := fnExactSwapBytesUptoRow, standIns := [], harness := (true, "34cde0bddf7d922f0e7710304d8c1280b0c3ddd0017de3bcca3fa17489ae1a33"), looks := false }, kinds := [], alts := [], laidByText := true, laidKinds := [.data], laidTests := true, laidLooks := .later }
def FnExactSwapBytesUptoCardSaid : Prop := Claim7.holds Tryd.pinned (.plain (OpenSpec.upto fnExactSwapBytesSpec)) fnExactSwapBytesUptoCard
end Rows
end Go.Proofs.YtekojnkaikbeaaaDoor
