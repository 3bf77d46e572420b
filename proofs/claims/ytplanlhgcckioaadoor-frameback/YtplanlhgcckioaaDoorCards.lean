/-
  DERIVED. GIVEN WITH THE SEED: THE CARDS: each row of YtplanlhgcckioaaDoorRows.lean that lists a variable, with what it lists TIED to the program's text (the seventh form; the later family's looks); each row that meets fmt, with fmt's text TOLD by the authors' own Lean function (tested against real Go, not proved from fmt's source: count such statements apart). THE CARD IS WHAT COUNTS. Prove the row's statement (the work); the ties are given (YtplanlhgcckioaaDoorTie.lean); close each card by the builder's one call (the guide's Derived/Test/ToyasCard.lean, 'card_holds'). Laid BY PROGRAM, IN A SANDBOX (cutbox-door.mjs). By AI agents, Wed Nov 11 2026. No macro, syntax, notation, axiom, sorry.
-/
import Derived.Test.YtplanlhgcckioaaDoorRows
import GoSem.ClaimSeven
namespace Go.Proofs.YtplanlhgcckioaaDoor
namespace Rows

/-- THE TIED CARD OF 'intarsialaw09.FrameWith'. -/
def frameWithCard : Claim7 := { stood := { row := frameWithRow, standIns := [], harness := (true, "78feabfa37b2fbdd7cf1f6a0086990082ef449215c2ca09c8d24907d5adc0b68"), looks := false }, kinds := [], alts := [], laidByText := true, laidKinds := [.data, .data, .data], laidTests := true, laidLooks := .later }
def FrameWithCardSaid : Prop := Claim7.holds Tryd.pinned (.plain (OpenSpec.ofChange frameWithSpec)) frameWithCard

/-- THE TIED CARD OF 'intarsialaw09.FrameBack'. -/
def frameBackCard : Claim7 := { stood := { row := frameBackRow, standIns := [], harness := (true, "78feabfa37b2fbdd7cf1f6a0086990082ef449215c2ca09c8d24907d5adc0b68"), looks := false }, kinds := [], alts := [], laidByText := true, laidKinds := [.data, .data, .data], laidTests := true, laidLooks := .later }
def FrameBackCardSaid : Prop := Claim7.holds Tryd.pinned (.plain (OpenSpec.ofChange frameBackSpec)) frameBackCard

/-- THE SECOND FORM's CARD OF 'intarsialaw09.FrameWith'. -/
def frameWithUptoCard : Claim7 := { stood := { row := frameWithUptoRow, standIns := [], harness := (true, "78feabfa37b2fbdd7cf1f6a0086990082ef449215c2ca09c8d24907d5adc0b68"), looks := false }, kinds := [], alts := [], laidByText := true, laidKinds := [.data, .data, .data], laidTests := true, laidLooks := .later }
def FrameWithUptoCardSaid : Prop := Claim7.holds Tryd.pinned (.plain (OpenSpec.upto frameWithSpec)) frameWithUptoCard

/-- THE SECOND FORM's CARD OF 'intarsialaw09.FrameBack'. -/
def frameBackUptoCard : Claim7 := { stood := { row := frameBackUptoRow, standIns := [], harness := (true, "78feabfa37b2fbdd7cf1f6a0086990082ef449215c2ca09c8d24907d5adc0b68"), looks := false }, kinds := [], alts := [], laidByText := true, laidKinds := [.data, .data, .data], laidTests := true, laidLooks := .later }
def FrameBackUptoCardSaid : Prop := Claim7.holds Tryd.pinned (.plain (OpenSpec.upto frameBackSpec)) frameBackUptoCard
end Rows
end Go.Proofs.YtplanlhgcckioaaDoor
