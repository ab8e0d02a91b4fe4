/-
  DERIVED. GIVEN WITH THE SEED: THE CARDS: each row of YtnankgophbjioaaDoorRows.lean that lists a variable, with what it lists TIED to the program's text (the seventh form; the later family's looks); each row that meets fmt, with fmt's text TOLD by the authors' own Lean function (tested against real Go, not proved from fmt's source: count such statements apart). THE CARD IS WHAT COUNTS. Prove the row's statement (the work); the ties are given (YtnankgophbjioaaDoorTie.lean); close each card by the builder's one call (the guide's Derived/Test/ToyasCard.lean, 'card_holds'). Laid BY PROGRAM, IN A SANDBOX (cutbox-door.mjs). By AI agents, Wed Nov 11 2026. No macro, syntax, notation, axiom, sorry.
-/
import Derived.Test.YtnankgophbjioaaDoorRows
import GoSem.ClaimSeven
namespace Go.Proofs.YtnankgophbjioaaDoor
namespace Rows

/-- THE TIED CARD OF 'ullagelaw02.ShaSums'. -/
def shaSumsCard : Claim7 := { stood := { row := shaSumsRow, standIns := [], harness := (true, "2740a98621336eca01caccc679738f645b314add9bb00730c34a4f4caedf7c8b"), looks := false }, kinds := [], alts := [], laidByText := true, laidKinds := [.data, .data], laidTests := true, laidLooks := .later }
def ShaSumsCardSaid : Prop := Claim7.holds Tryd.pinned (.plain (OpenSpec.ofChange shaSumsSpec)) shaSumsCard

/-- THE TIED CARD OF 'ullagelaw02.ShaChunks'. -/
def shaChunksCard : Claim7 := { stood := { row := shaChunksRow, standIns := [], harness := (true, "2740a98621336eca01caccc679738f645b314add9bb00730c34a4f4caedf7c8b"), looks := false }, kinds := [], alts := [], laidByText := true, laidKinds := [.data, .data], laidTests := true, laidLooks := .later }
def ShaChunksCardSaid : Prop := Claim7.holds Tryd.pinned (.plain (OpenSpec.ofChange shaChunksSpec)) shaChunksCard

/-- THE SECOND FORM's CARD OF 'ullagelaw02.ShaSums'. -/
def shaSumsUptoCard : Claim7 := { stood := { row := shaSumsUptoRow, standIns := [], harness := (true, "2740a98621336eca01caccc679738f645b314add9bb00730c34a4f4caedf7c8b"), looks := false }, kinds := [], alts := [], laidByText := true, laidKinds := [.data, .data], laidTests := true, laidLooks := .later }
def ShaSumsUptoCardSaid : Prop := Claim7.holds Tryd.pinned (.plain (OpenSpec.upto shaSumsSpec)) shaSumsUptoCard

/-- THE SECOND FORM's CARD OF 'ullagelaw02.ShaChunks'. -/
def shaChunksUptoCard : Claim7 := { stood := { row := shaChunksUptoRow, standIns := [], harness := (true, "2740a98621336eca01caccc679738f645b314add9bb00730c34a4f4caedf7c8b"), looks := false }, kinds := [], alts := [], laidByText := true, laidKinds := [.data, .data], laidTests := true, laidLooks := .later }
def ShaChunksUptoCardSaid : Prop := Claim7.holds Tryd.pinned (.plain (OpenSpec.upto shaChunksSpec)) shaChunksUptoCard
end Rows
end Go.Proofs.YtnankgophbjioaaDoor
