/-
  DERIVED. GIVEN WITH THE SEED: THE CARDS: each row of YtjjhilaondbpaaaDoorRows.lean that lists a variable, with what it lists TIED to the program's text (the seventh form; the later family's looks); each row that meets fmt, with fmt's text TOLD by the authors' own Lean function (tested against real Go, not proved from fmt's source: count such statements apart). THE CARD IS WHAT COUNTS. Prove the row's statement (the work); the ties are given (YtjjhilaondbpaaaDoorTie.lean); close each card by the builder's one call (the guide's Derived/Test/ToyasCard.lean, 'card_holds'). Laid BY PROGRAM, IN A SANDBOX (cutbox-door.mjs). By AI agents, Wed Nov 11 2026. No macro, syntax, notation, axiom, sorry.
-/
import Derived.Test.YtjjhilaondbpaaaDoorRows
import GoSem.ClaimSeven
namespace Go.Proofs.YtjjhilaondbpaaaDoor
namespace Rows

/-- THE TIED CARD OF 'ullagelaw05.HexPuts'. -/
def hexPutsCard : Claim7 := { stood := { row := hexPutsRow, standIns := [], harness := (true, "0c3e53fd14d5ec5eb7ba1c6c13bd853bc295732d4cc524eddb4a86c633884d64"), looks := false }, kinds := [], alts := [], laidByText := true, laidKinds := [.data, .data, .data], laidTests := true, laidLooks := .later }
def HexPutsCardSaid : Prop := Claim7.holds Tryd.pinned (.plain (OpenSpec.ofChange hexPutsSpec)) hexPutsCard

/-- THE TIED CARD OF 'ullagelaw05.HexTakes'. -/
def hexTakesCard : Claim7 := { stood := { row := hexTakesRow, standIns := [], harness := (true, "0c3e53fd14d5ec5eb7ba1c6c13bd853bc295732d4cc524eddb4a86c633884d64"), looks := false }, kinds := [], alts := [], laidByText := true, laidKinds := [.data, .data, .data], laidTests := true, laidLooks := .later }
def HexTakesCardSaid : Prop := Claim7.holds Tryd.pinned (.plain (OpenSpec.ofChange hexTakesSpec)) hexTakesCard

/-- THE SECOND FORM's CARD OF 'ullagelaw05.HexPuts'. -/
def hexPutsUptoCard : Claim7 := { stood := { row := hexPutsUptoRow, standIns := [], harness := (true, "0c3e53fd14d5ec5eb7ba1c6c13bd853bc295732d4cc524eddb4a86c633884d64"), looks := false }, kinds := [], alts := [], laidByText := true, laidKinds := [.data, .data, .data], laidTests := true, laidLooks := .later }
def HexPutsUptoCardSaid : Prop := Claim7.holds Tryd.pinned (.plain (OpenSpec.upto hexPutsSpec)) hexPutsUptoCard

/-- THE SECOND FORM's CARD OF 'ullagelaw05.HexTakes'. -/
def hexTakesUptoCard : Claim7 := { stood := { row := hexTakesUptoRow, standIns := [], harness := (true, "0c3e53fd14d5ec5eb7ba1c6c13bd853bc295732d4cc524eddb4a86c633884d64"), looks := false }, kinds := [], alts := [], laidByText := true, laidKinds := [.data, .data, .data], laidTests := true, laidLooks := .later }
def HexTakesUptoCardSaid : Prop := Claim7.holds Tryd.pinned (.plain (OpenSpec.upto hexTakesSpec)) hexTakesUptoCard
end Rows
end Go.Proofs.YtjjhilaondbpaaaDoor
