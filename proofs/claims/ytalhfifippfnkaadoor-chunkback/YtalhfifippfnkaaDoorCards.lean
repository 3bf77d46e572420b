/-
  DERIVED. GIVEN WITH THE SEED: THE CARDS: each row of YtalhfifippfnkaaDoorRows.lean that lists a variable, with what it lists TIED to the program's text (the seventh form; the later family's looks); each row that meets fmt, with fmt's text TOLD by the authors' own Lean function (tested against real Go, not proved from fmt's source: count such statements apart). THE CARD IS WHAT COUNTS. Prove the row's statement (the work); the ties are given (YtalhfifippfnkaaDoorTie.lean); close each card by the builder's one call (the guide's Derived/Test/ToyasCard.lean, 'card_holds'). Laid BY PROGRAM, IN A SANDBOX (cutbox-door.mjs). By AI agents, Wed Nov 11 2026. No macro, syntax, notation, axiom, sorry.
-/
import Derived.Test.YtalhfifippfnkaaDoorRows
import GoSem.ClaimSeven
namespace Go.Proofs.YtalhfifippfnkaaDoor
namespace Rows

/-- THE TIED CARD OF 'intarsialaw08.ChunkBack'. -/
def chunkBackCard : Claim7 := { stood := { row := chunkBackRow, standIns := [], harness := (true, "bcdd7555c0a69990ed270d9b75a26017c44780246b493d0e3c3871651e6effc5"), looks := false }, kinds := [], alts := [], laidByText := true, laidKinds := [.data, .data, .data], laidTests := true, laidLooks := .later }
def ChunkBackCardSaid : Prop := Claim7.holds Tryd.pinned (.plain (OpenSpec.ofChange chunkBackSpec)) chunkBackCard

/-- THE TIED CARD OF 'intarsialaw08.ChunkLong'. -/
def chunkLongCard : Claim7 := { stood := { row := chunkLongRow, standIns := [], harness := (true, "bcdd7555c0a69990ed270d9b75a26017c44780246b493d0e3c3871651e6effc5"), looks := false }, kinds := [], alts := [], laidByText := true, laidKinds := [.data, .data, .data], laidTests := true, laidLooks := .later }
def ChunkLongCardSaid : Prop := Claim7.holds Tryd.pinned (.plain (OpenSpec.ofChange chunkLongSpec)) chunkLongCard

/-- THE TIED CARD OF 'intarsialaw08.ChunkSame'. -/
def chunkSameCard : Claim7 := { stood := { row := chunkSameRow, standIns := [], harness := (true, "bcdd7555c0a69990ed270d9b75a26017c44780246b493d0e3c3871651e6effc5"), looks := false }, kinds := [], alts := [], laidByText := true, laidKinds := [.data, .data, .data], laidTests := true, laidLooks := .later }
def ChunkSameCardSaid : Prop := Claim7.holds Tryd.pinned (.plain (OpenSpec.ofChange chunkSameSpec)) chunkSameCard

/-- THE SECOND FORM's CARD OF 'intarsialaw08.ChunkBack'. -/
def chunkBackUptoCard : Claim7 := { stood := { row := chunkBackUptoRow, standIns := [], harness := (true, "bcdd7555c0a69990ed270d9b75a26017c44780246b493d0e3c3871651e6effc5"), looks := false }, kinds := [], alts := [], laidByText := true, laidKinds := [.data, .data, .data], laidTests := true, laidLooks := .later }
def ChunkBackUptoCardSaid : Prop := Claim7.holds Tryd.pinned (.plain (OpenSpec.upto chunkBackSpec)) chunkBackUptoCard

/-- THE SECOND FORM's CARD OF 'intarsialaw08.ChunkLong'. -/
def chunkLongUptoCard : Claim7 := { stood := { row := chunkLongUptoRow, standIns := [], harness := (true, "bcdd7555c0a69990ed270d9b75a26017c44780246b493d0e3c3871651e6effc5"), looks := false }, kinds := [], alts := [], laidByText := true, laidKinds := [.data, .data, .data], laidTests := true, laidLooks := .later }
def ChunkLongUptoCardSaid : Prop := Claim7.holds Tryd.pinned (.plain (OpenSpec.upto chunkLongSpec)) chunkLongUptoCard

/-- THE SECOND FORM's CARD OF 'intarsialaw08.ChunkSame'. -/
def chunkSameUptoCard : Claim7 := { stood := { row := chunkSameUptoRow, standIns := [], harness := (true, "bcdd7555c0a69990ed270d9b75a26017c44780246b493d0e3c3871651e6effc5"), looks := false }, kinds := [], alts := [], laidByText := true, laidKinds := [.data, .data, .data], laidTests := true, laidLooks := .later }
def ChunkSameUptoCardSaid : Prop := Claim7.holds Tryd.pinned (.plain (OpenSpec.upto chunkSameSpec)) chunkSameUptoCard
end Rows
end Go.Proofs.YtalhfifippfnkaaDoor
