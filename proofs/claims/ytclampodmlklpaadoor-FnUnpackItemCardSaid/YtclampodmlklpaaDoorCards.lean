/-
  DERIVED. GIVEN WITH THE SEED: THE CARDS: each row of YtclampodmlklpaaDoorRows.lean that lists a variable, with what it lists TIED to the program's text (the seventh form; the later family's looks); each row that meets fmt, with fmt's text TOLD by the authors' own Lean function (tested against real Go, not proved from fmt's source: count such statements apart). THE CARD IS WHAT COUNTS. Prove the row's statement (the work); the ties are given (YtclampodmlklpaaDoorTie.lean); close each card by the builder's one call (the guide's Derived/Test/ToyasCard.lean, 'card_holds'). Laid BY PROGRAM, IN A SANDBOX (cutbox-door.mjs). By AI agents, Wed Nov 11 2026. No macro, syntax, notation, axiom, sorry.
-/
import Derived.Test.YtclampodmlklpaaDoorRows
import GoSem.ClaimSeven
namespace Go.Proofs.YtclampodmlklpaaDoor
namespace Rows

/-- THE TIED CARD OF 'laws.FnValidFormat'. -/
def fnValidFormatCard : Claim7 := { stood := { row := fnValidFormatRow, standIns := [], harness := (true, "f86eb38fb432c375a1a8e59df68a3aa483ed37d990c127f30aeef63f0d849e70"), looks := false }, kinds := [], alts := [], laidByText := true, laidKinds := [.data], laidTests := true, laidLooks := .later }
def FnValidFormatCardSaid : Prop := Claim7.holds Tryd.pinned (.plain (OpenSpec.ofChange fnValidFormatSpec)) fnValidFormatCard

/-- THE TIED CARD OF 'laws.FnPlacesOf'. -/
def fnPlacesOfCard : Claim7 := { stood := { row := fnPlacesOfRow, standIns := [], harness := (true, "f86eb38fb432c375a1a8e59df68a3aa483ed37d990c127f30aeef63f0d849e70"), looks := false }, kinds := [], alts := [], laidByText := true, laidKinds := [.data], laidTests := true, laidLooks := .later }
def FnPlacesOfCardSaid : Prop := Claim7.holds Tryd.pinned (.plain (OpenSpec.ofChange fnPlacesOfSpec)) fnPlacesOfCard

/-- THE TIED CARD OF 'laws.FnItemSize'. -/
def fnItemSizeCard : Claim7 := { stood := { row := fnItemSizeRow, standIns := [], harness := (true, "f86eb38fb432c375a1a8e59df68a3aa483ed37d990c127f30aeef63f0d849e70"), looks := false }, kinds := [], alts := [], laidByText := true, laidKinds := [.data], laidTests := true, laidLooks := .later }
def FnItemSizeCardSaid : Prop := Claim7.holds Tryd.pinned (.plain (OpenSpec.ofChange fnItemSizeSpec)) fnItemSizeCard

/-- THE TIED CARD OF 'laws.FnPaddingOf'. -/
def fnPaddingOfCard : Claim7 := { stood := { row := fnPaddingOfRow, standIns := [], harness := (true, "f86eb38fb432c375a1a8e59df68a3aa483ed37d990c127f30aeef63f0d849e70"), looks := false }, kinds := [], alts := [], laidByText := true, laidKinds := [.data], laidTests := true, laidLooks := .later }
def FnPaddingOfCardSaid : Prop := Claim7.holds Tryd.pinned (.plain (OpenSpec.ofChange fnPaddingOfSpec)) fnPaddingOfCard

/-- THE TIED CARD OF 'laws.FnPackItem'. -/
def fnPackItemCard : Claim7 := { stood := { row := fnPackItemRow, standIns := [], harness := (true, "f86eb38fb432c375a1a8e59df68a3aa483ed37d990c127f30aeef63f0d849e70"), looks := false }, kinds := [], alts := [], laidByText := true, laidKinds := [.data], laidTests := true, laidLooks := .later }
def FnPackItemCardSaid : Prop := Claim7.holds Tryd.pinned (.plain (OpenSpec.ofChange fnPackItemSpec)) fnPackItemCard

/-- THE TIED CARD OF 'laws.FnUnpackItem'. -/
def fnUnpackItemCard : Claim7 := { stood := { row := fnUnpackItemRow, standIns := [], harness := (true, "f86eb38fb432c375a1a8e59df68a3aa483ed37d990c127f30aeef63f0d849e70"), looks := false }, kinds := [], alts := [], laidByText := true, laidKinds := [.data], laidTests := true, laidLooks := .later }
def FnUnpackItemCardSaid : Prop := Claim7.holds Tryd.pinned (.plain (OpenSpec.ofChange fnUnpackItemSpec)) fnUnpackItemCard

/-- THE TIED CARD OF 'laws.FnPackAll'. -/
def fnPackAllCard : Claim7 := { stood := { row := fnPackAllRow, standIns := [], harness := (true, "f86eb38fb432c375a1a8e59df68a3aa483ed37d990c127f30aeef63f0d849e70"), looks := false }, kinds := [], alts := [], laidByText := true, laidKinds := [.data], laidTests := true, laidLooks := .later }
def FnPackAllCardSaid : Prop := Claim7.holds Tryd.pinned (.plain (OpenSpec.ofChange fnPackAllSpec)) fnPackAllCard

/-- THE TIED CARD OF 'laws.FnUnpackAll'. -/
def fnUnpackAllCard : Claim7 := { stood := { row := fnUnpackAllRow, standIns := [], harness := (true, "f86eb38fb432c375a1a8e59df68a3aa483ed37d990c127f30aeef63f0d849e70"), looks := false }, kinds := [], alts := [], laidByText := true, laidKinds := [.data], laidTests := true, laidLooks := .later }
def FnUnpackAllCardSaid : Prop := Claim7.holds Tryd.pinned (.plain (OpenSpec.ofChange fnUnpackAllSpec)) fnUnpackAllCard

/-- THE TIED CARD OF 'laws.FnFieldView'. -/
def fnFieldViewCard : Claim7 := { stood := { row := fnFieldViewRow, standIns := [], harness := (true, "f86eb38fb432c375a1a8e59df68a3aa483ed37d990c127f30aeef63f0d849e70"), looks := false }, kinds := [], alts := [], laidByText := true, laidKinds := [.data], laidTests := true, laidLooks := .later }
def FnFieldViewCardSaid : Prop := Claim7.holds Tryd.pinned (.plain (OpenSpec.ofChange fnFieldViewSpec)) fnFieldViewCard

/-- THE TIED CARD OF 'laws.FnSwapBytes'. -/
def fnSwapBytesCard : Claim7 := { stood := { row := fnSwapBytesRow, standIns := [], harness := (true, "f86eb38fb432c375a1a8e59df68a3aa483ed37d990c127f30aeef63f0d849e70"), looks := false }, kinds := [], alts := [], laidByText := true, laidKinds := [.data], laidTests := true, laidLooks := .later }
def FnSwapBytesCardSaid : Prop := Claim7.holds Tryd.pinned (.plain (OpenSpec.ofChange fnSwapBytesSpec)) fnSwapBytesCard

/-- THE SECOND FORM's CARD OF 'laws.FnValidFormat'. -/
def fnValidFormatUptoCard : Claim7 := { stood := { row := fnValidFormatUptoRow, standIns := [], harness := (true, "f86eb38fb432c375a1a8e59df68a3aa483ed37d990c127f30aeef63f0d849e70"), looks := false }, kinds := [], alts := [], laidByText := true, laidKinds := [.data], laidTests := true, laidLooks := .later }
def FnValidFormatUptoCardSaid : Prop := Claim7.holds Tryd.pinned (.plain (OpenSpec.upto fnValidFormatSpec)) fnValidFormatUptoCard

/-- THE SECOND FORM's CARD OF 'laws.FnPlacesOf'. -/
def fnPlacesOfUptoCard : Claim7 := { stood := { row := fnPlacesOfUptoRow, standIns := [], harness := (true, "f86eb38fb432c375a1a8e59df68a3aa483ed37d990c127f30aeef63f0d849e70"), looks := false }, kinds := [], alts := [], laidByText := true, laidKinds := [.data], laidTests := true, laidLooks := .later }
def FnPlacesOfUptoCardSaid : Prop := Claim7.holds Tryd.pinned (.plain (OpenSpec.upto fnPlacesOfSpec)) fnPlacesOfUptoCard

/-- THE SECOND FORM's CARD OF 'laws.FnItemSize'. -/
def fnItemSizeUptoCard : Claim7 := { stood := { row := fnItemSizeUptoRow, standIns := [], harness := (true, "f86eb38fb432c375a1a8e59df68a3aa483ed37d990c127f30aeef63f0d849e70"), looks := false }, kinds := [], alts := [], laidByText := true, laidKinds := [.data], laidTests := true, laidLooks := .later }
def FnItemSizeUptoCardSaid : Prop := Claim7.holds Tryd.pinned (.plain (OpenSpec.upto fnItemSizeSpec)) fnItemSizeUptoCard

/-- THE SECOND FORM's CARD OF 'laws.FnPaddingOf'. -/
def fnPaddingOfUptoCard : Claim7 := { stood := { row := fnPaddingOfUptoRow, standIns := [], harness := (true, "f86eb38fb432c375a1a8e59df68a3aa483ed37d990c127f30aeef63f0d849e70"), looks := false }, kinds := [], alts := [], laidByText := true, laidKinds := [.data], laidTests := true, laidLooks := .later }
def FnPaddingOfUptoCardSaid : Prop := Claim7.holds Tryd.pinned (.plain (OpenSpec.upto fnPaddingOfSpec)) fnPaddingOfUptoCard

/-- THE SECOND FORM's CARD OF 'laws.FnPackItem'. -/
def fnPackItemUptoCard : Claim7 := { stood := { row := fnPackItemUptoRow, standIns := [], harness := (true, "f86eb38fb432c375a1a8e59df68a3aa483ed37d990c127f30aeef63f0d849e70"), looks := false }, kinds := [], alts := [], laidByText := true, laidKinds := [.data], laidTests := true, laidLooks := .later }
def FnPackItemUptoCardSaid : Prop := Claim7.holds Tryd.pinned (.plain (OpenSpec.upto fnPackItemSpec)) fnPackItemUptoCard

/-- THE SECOND FORM's CARD OF 'laws.FnUnpackItem'. -/
def fnUnpackItemUptoCard : Claim7 := { stood := { row := fnUnpackItemUptoRow, standIns := [], harness := (true, "f86eb38fb432c375a1a8e59df68a3aa483ed37d990c127f30aeef63f0d849e70"), looks := false }, kinds := [], alts := [], laidByText := true, laidKinds := [.data], laidTests := true, laidLooks := .later }
def FnUnpackItemUptoCardSaid : Prop := Claim7.holds Tryd.pinned (.plain (OpenSpec.upto fnUnpackItemSpec)) fnUnpackItemUptoCard

/-- THE SECOND FORM's CARD OF 'laws.FnPackAll'. -/
def fnPackAllUptoCard : Claim7 := { stood := { row := fnPackAllUptoRow, standIns := [], harness := (true, "f86eb38fb432c375a1a8e59df68a3aa483ed37d990c127f30aeef63f0d849e70"), looks := false }, kinds := [], alts := [], laidByText := true, laidKinds := [.data], laidTests := true, laidLooks := .later }
def FnPackAllUptoCardSaid : Prop := Claim7.holds Tryd.pinned (.plain (OpenSpec.upto fnPackAllSpec)) fnPackAllUptoCard

/-- THE SECOND FORM's CARD OF 'laws.FnUnpackAll'. -/
def fnUnpackAllUptoCard : Claim7 := { stood := { row := fnUnpackAllUptoRow, standIns := [], harness := (true, "f86eb38fb432c375a1a8e59df68a3aa483ed37d990c127f30aeef63f0d849e70"), looks := false }, kinds := [], alts := [], laidByText := true, laidKinds := [.data], laidTests := true, laidLooks := .later }
def FnUnpackAllUptoCardSaid : Prop := Claim7.holds Tryd.pinned (.plain (OpenSpec.upto fnUnpackAllSpec)) fnUnpackAllUptoCard

/-- THE SECOND FORM's CARD OF 'laws.FnFieldView'. -/
def fnFieldViewUptoCard : Claim7 := { stood := { row := fnFieldViewUptoRow, standIns := [], harness := (true, "f86eb38fb432c375a1a8e59df68a3aa483ed37d990c127f30aeef63f0d849e70"), looks := false }, kinds := [], alts := [], laidByText := true, laidKinds := [.data], laidTests := true, laidLooks := .later }
def FnFieldViewUptoCardSaid : Prop := Claim7.holds Tryd.pinned (.plain (OpenSpec.upto fnFieldViewSpec)) fnFieldViewUptoCard

/-- THE SECOND FORM's CARD OF 'laws.FnSwapBytes'. -/
def fnSwapBytesUptoCard : Claim7 := { stood := { row := fnSwapBytesUptoRow, standIns := [], harness := (true, "f86eb38fb432c375a1a8e59df68a3aa483ed37d990c127f30aeef63f0d849e70"), looks := false }, kinds := [], alts := [], laidByText := true, laidKinds := [.data], laidTests := true, laidLooks := .later }
def FnSwapBytesUptoCardSaid : Prop := Claim7.holds Tryd.pinned (.plain (OpenSpec.upto fnSwapBytesSpec)) fnSwapBytesUptoCard
end Rows
end Go.Proofs.YtclampodmlklpaaDoor
