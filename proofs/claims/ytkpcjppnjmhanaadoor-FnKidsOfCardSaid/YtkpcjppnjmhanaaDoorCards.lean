/-
  DERIVED. GIVEN WITH THE SEED: THE CARDS: each row of YtkpcjppnjmhanaaDoorRows.lean that lists a variable, with what it lists TIED to the program's text (the seventh form; the later family's looks); each row that meets fmt, with fmt's text TOLD by the authors' own Lean function (tested against real Go, not proved from fmt's source: count such statements apart). THE CARD IS WHAT COUNTS. Prove the row's statement (the work); the ties are given (YtkpcjppnjmhanaaDoorTie.lean); close each card by the builder's one call (the guide's Derived/Test/ToyasCard.lean, 'card_holds'). Laid BY PROGRAM, IN A SANDBOX (cutbox-door.mjs). By AI agents, Wed Nov 11 2026. No macro, syntax, notation, axiom, sorry.
-/
import Derived.Test.YtkpcjppnjmhanaaDoorRows
import GoSem.ClaimSeven
namespace Go.Proofs.YtkpcjppnjmhanaaDoor
namespace Rows

/-- THE TIED CARD OF 'laws.FnValidBuffer'. -/
def fnValidBufferCard : Claim7 := { stood := { row := fnValidBufferRow, standIns := [], harness := (true, "a94642d3472bc763ed776b336c46c7ac65542f8d848ea9d1e94fe7a212c2f042"), looks := true }, kinds := [], alts := [], laidByText := true, laidKinds := [.sentinel], laidTests := true, laidLooks := .later }
def FnValidBufferCardSaid : Prop := Claim7.holds Tryd.pinned (.plain (OpenSpec.ofChange fnValidBufferSpec)) fnValidBufferCard

/-- THE TIED CARD OF 'laws.FnKidsOf'. -/
def fnKidsOfCard : Claim7 := { stood := { row := fnKidsOfRow, standIns := [], harness := (true, "a94642d3472bc763ed776b336c46c7ac65542f8d848ea9d1e94fe7a212c2f042"), looks := true }, kinds := [], alts := [], laidByText := true, laidKinds := [.sentinel], laidTests := true, laidLooks := .later }
def FnKidsOfCardSaid : Prop := Claim7.holds Tryd.pinned (.plain (OpenSpec.ofChange fnKidsOfSpec)) fnKidsOfCard

/-- THE TIED CARD OF 'laws.FnOpenOf'. -/
def fnOpenOfCard : Claim7 := { stood := { row := fnOpenOfRow, standIns := [], harness := (true, "a94642d3472bc763ed776b336c46c7ac65542f8d848ea9d1e94fe7a212c2f042"), looks := true }, kinds := [], alts := [], laidByText := true, laidKinds := [.sentinel], laidTests := true, laidLooks := .later }
def FnOpenOfCardSaid : Prop := Claim7.holds Tryd.pinned (.plain (OpenSpec.ofChange fnOpenOfSpec)) fnOpenOfCard

/-- THE TIED CARD OF 'laws.FnResizeBuffer'. -/
def fnResizeBufferCard : Claim7 := { stood := { row := fnResizeBufferRow, standIns := [], harness := (true, "a94642d3472bc763ed776b336c46c7ac65542f8d848ea9d1e94fe7a212c2f042"), looks := true }, kinds := [], alts := [], laidByText := true, laidKinds := [.sentinel], laidTests := true, laidLooks := .later }
def FnResizeBufferCardSaid : Prop := Claim7.holds Tryd.pinned (.plain (OpenSpec.ofChange fnResizeBufferSpec)) fnResizeBufferCard

/-- THE SECOND FORM's CARD OF 'laws.FnValidBuffer'. -/
def fnValidBufferUptoCard : Claim7 := { stood := { row := fnValidBufferUptoRow, standIns := [], harness := (true, "a94642d3472bc763ed776b336c46c7ac65542f8d848ea9d1e94fe7a212c2f042"), looks := true }, kinds := [], alts := [], laidByText := true, laidKinds := [.sentinel], laidTests := true, laidLooks := .later }
def FnValidBufferUptoCardSaid : Prop := Claim7.holds Tryd.pinned (.plain (OpenSpec.upto fnValidBufferSpec)) fnValidBufferUptoCard

/-- THE SECOND FORM's CARD OF 'laws.FnKidsOf'. -/
def fnKidsOfUptoCard : Claim7 := { stood := { row := fnKidsOfUptoRow, standIns := [], harness := (true, "a94642d3472bc763ed776b336c46c7ac65542f8d848ea9d1e94fe7a212c2f042"), looks := true }, kinds := [], alts := [], laidByText := true, laidKinds := [.sentinel], laidTests := true, laidLooks := .later }
def FnKidsOfUptoCardSaid : Prop := Claim7.holds Tryd.pinned (.plain (OpenSpec.upto fnKidsOfSpec)) fnKidsOfUptoCard

/-- THE SECOND FORM's CARD OF 'laws.FnOpenOf'. -/
def fnOpenOfUptoCard : Claim7 := { stood := { row := fnOpenOfUptoRow, standIns := [], harness := (true, "a94642d3472bc763ed776b336c46c7ac65542f8d848ea9d1e94fe7a212c2f042"), looks := true }, kinds := [], alts := [], laidByText := true, laidKinds := [.sentinel], laidTests := true, laidLooks := .later }
def FnOpenOfUptoCardSaid : Prop := Claim7.holds Tryd.pinned (.plain (OpenSpec.upto fnOpenOfSpec)) fnOpenOfUptoCard

/-- THE SECOND FORM's CARD OF 'laws.FnResizeBuffer'. -/
def fnResizeBufferUptoCard : Claim7 := { stood := { row := fnResizeBufferUptoRow, standIns := [], harness := (true, "a94642d3472bc763ed776b336c46c7ac65542f8d848ea9d1e94fe7a212c2f042"), looks := true }, kinds := [], alts := [], laidByText := true, laidKinds := [.sentinel], laidTests := true, laidLooks := .later }
def FnResizeBufferUptoCardSaid : Prop := Claim7.holds Tryd.pinned (.plain (OpenSpec.upto fnResizeBufferSpec)) fnResizeBufferUptoCard
end Rows
end Go.Proofs.YtkpcjppnjmhanaaDoor
