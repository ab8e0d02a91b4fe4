/-
  DERIVED. GIVEN WITH THE SEED: THE CARDS: each row of YtgcboodlneknpaaDoorRows.lean that lists a variable, with what it lists TIED to the program's text (the seventh form; the later family's looks); each row that meets fmt, with fmt's text TOLD by the authors' own Lean function (tested against real Go, not proved from fmt's source: count such statements apart). THE CARD IS WHAT COUNTS. Prove the row's statement (the work); the ties are given (YtgcboodlneknpaaDoorTie.lean); close each card by the builder's one call (the guide's Derived/Test/ToyasCard.lean, 'card_holds'). Laid BY PROGRAM, IN A SANDBOX (cutbox-door.mjs). By AI agents, Wed Nov 11 2026. No macro, syntax, notation, axiom, sorry.
-/
import Derived.Test.YtgcboodlneknpaaDoorRows
import GoSem.ClaimSeven
namespace Go.Proofs.YtgcboodlneknpaaDoor
namespace Rows

/-- THE TIED CARD OF 'ullagelaw03.BlakeSums'. -/
def blakeSumsCard : Claim7 := { stood := { row := blakeSumsRow, standIns := [], harness := (true, "0928c1ae341f8c4ea212598584d51f75a5110d2da83f76c7c6cc742a808a03a6"), looks := false }, kinds := [], alts := [], laidByText := true, laidKinds := [.data, .data, .data], laidTests := true, laidLooks := .later }
def BlakeSumsCardSaid : Prop := Claim7.holds Tryd.pinned (.plain (OpenSpec.ofChange blakeSumsSpec)) blakeSumsCard

/-- THE TIED CARD OF 'ullagelaw03.BlakeChunks'. -/
def blakeChunksCard : Claim7 := { stood := { row := blakeChunksRow, standIns := [], harness := (true, "0928c1ae341f8c4ea212598584d51f75a5110d2da83f76c7c6cc742a808a03a6"), looks := false }, kinds := [], alts := [], laidByText := true, laidKinds := [.data, .data, .data], laidTests := true, laidLooks := .later }
def BlakeChunksCardSaid : Prop := Claim7.holds Tryd.pinned (.plain (OpenSpec.ofChange blakeChunksSpec)) blakeChunksCard

/-- THE SECOND FORM's CARD OF 'ullagelaw03.BlakeSums'. -/
def blakeSumsUptoCard : Claim7 := { stood := { row := blakeSumsUptoRow, standIns := [], harness := (true, "0928c1ae341f8c4ea212598584d51f75a5110d2da83f76c7c6cc742a808a03a6"), looks := false }, kinds := [], alts := [], laidByText := true, laidKinds := [.data, .data, .data], laidTests := true, laidLooks := .later }
def BlakeSumsUptoCardSaid : Prop := Claim7.holds Tryd.pinned (.plain (OpenSpec.upto blakeSumsSpec)) blakeSumsUptoCard

/-- THE SECOND FORM's CARD OF 'ullagelaw03.BlakeChunks'. -/
def blakeChunksUptoCard : Claim7 := { stood := { row := blakeChunksUptoRow, standIns := [], harness := (true, "0928c1ae341f8c4ea212598584d51f75a5110d2da83f76c7c6cc742a808a03a6"), looks := false }, kinds := [], alts := [], laidByText := true, laidKinds := [.data, .data, .data], laidTests := true, laidLooks := .later }
def BlakeChunksUptoCardSaid : Prop := Claim7.holds Tryd.pinned (.plain (OpenSpec.upto blakeChunksSpec)) blakeChunksUptoCard
end Rows
end Go.Proofs.YtgcboodlneknpaaDoor
