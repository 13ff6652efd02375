/-
  DERIVED. GIVEN WITH THE SEED: THE CARDS: each row of YtmdocjjciedohaaDoorRows.lean that lists a variable, with what it lists TIED to the program's text (the seventh form; the later family's looks); each row that meets fmt, with fmt's text TOLD by the authors' own Lean function (tested against real Go, not proved from fmt's source: count such statements apart). THE CARD IS WHAT COUNTS. Prove the row's statement (the work); the ties are given (YtmdocjjciedohaaDoorTie.lean); close each card by the builder's one call (the guide's Derived/Test/ToyasCard.lean, 'card_holds'). Laid BY PROGRAM, IN A SANDBOX (cutbox-door.mjs). By AI agents, Wed Nov 11 2026. No macro, syntax, notation, axiom, sorry.
-/
import Derived.Test.YtmdocjjciedohaaDoorRows
import GoSem.ClaimSeven
namespace Go.Proofs.YtmdocjjciedohaaDoor
namespace Rows

/-- THE TIED CARD OF 'laws.FnNewBuffer'. -/
def fnNewBufferCard : Claim7 := { stood := { row := fnNewBufferRow, standIns := [], harness := (true, "d426f9535b5d06d1cdbcd1d741e2905de75249a5b46f851d35d34ce2fddfda5d"), looks := true }, kinds := [], alts := [], laidByText := true, laidKinds := [.sentinel], laidTests := true, laidLooks := .later }
def FnNewBufferCardSaid : Prop := Claim7.holds Tryd.pinned (.plain (OpenSpec.ofChange fnNewBufferSpec)) fnNewBufferCard

/-- THE SECOND FORM's CARD OF 'laws.FnNewBuffer'. -/
def fnNewBufferUptoCard : Claim7 := { stood := { row := fnNewBufferUptoRow, standIns := [], harness := (true, "d426f9535b5d06d1cdbcd1d741e2905de75249a5b46f851d35d34ce2fddfda5d"), looks := true }, kinds := [], alts := [], laidByText := true, laidKinds := [.sentinel], laidTests := true, laidLooks := .later }
def FnNewBufferUptoCardSaid : Prop := Claim7.holds Tryd.pinned (.plain (OpenSpec.upto fnNewBufferSpec)) fnNewBufferUptoCard
end Rows
end Go.Proofs.YtmdocjjciedohaaDoor
