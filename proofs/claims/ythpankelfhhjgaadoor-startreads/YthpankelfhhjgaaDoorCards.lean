/-
  DERIVED. GIVEN WITH THE SEED: THE CARDS: each row of YthpankelfhhjgaaDoorRows.lean that lists a variable, with what it lists TIED to the program's text (the seventh form; the later family's looks); each row that meets fmt, with fmt's text TOLD by the authors' own Lean function (tested against real Go, not proved from fmt's source: count such statements apart). THE CARD IS WHAT COUNTS. Prove the row's statement (the work); the ties are given (YthpankelfhhjgaaDoorTie.lean); close each card by the builder's one call (the guide's Derived/Test/ToyasCard.lean, 'card_holds'). Laid BY PROGRAM, IN A SANDBOX (cutbox-door.mjs). By AI agents, Wed Nov 11 2026. No macro, syntax, notation, axiom, sorry.
-/
import Derived.Test.YthpankelfhhjgaaDoorRows
import GoSem.ClaimSeven
namespace Go.Proofs.YthpankelfhhjgaaDoor
namespace Rows

/-- THE TIED CARD OF 'intarsialaw06.StartReads'. -/
def startReadsCard : Claim7 := { stood := { row := startReadsRow, standIns := [], harness := (true, "a5fcc2e4a09c78227f793cbec3f8bfb3a9ff02dab8577607f59bdd9de2cdd2a0"), looks := false }, kinds := [], alts := [], laidByText := true, laidKinds := [.data, .data, .data], laidTests := true, laidLooks := .later }
def StartReadsCardSaid : Prop := Claim7.holds Tryd.pinned (.plain (OpenSpec.ofChange startReadsSpec)) startReadsCard

/-- THE TIED CARD OF 'intarsialaw06.StartBack'. -/
def startBackCard : Claim7 := { stood := { row := startBackRow, standIns := [], harness := (true, "a5fcc2e4a09c78227f793cbec3f8bfb3a9ff02dab8577607f59bdd9de2cdd2a0"), looks := false }, kinds := [], alts := [], laidByText := true, laidKinds := [.data, .data, .data], laidTests := true, laidLooks := .later }
def StartBackCardSaid : Prop := Claim7.holds Tryd.pinned (.plain (OpenSpec.ofChange startBackSpec)) startBackCard

/-- THE TIED CARD OF 'intarsialaw06.StartTold'. -/
def startToldCard : Claim7 := { stood := { row := startToldRow, standIns := [], harness := (true, "a5fcc2e4a09c78227f793cbec3f8bfb3a9ff02dab8577607f59bdd9de2cdd2a0"), looks := false }, kinds := [], alts := [], laidByText := true, laidKinds := [.data, .data, .data], laidTests := true, laidLooks := .later }
def StartToldCardSaid : Prop := Claim7.holds Tryd.pinned (.plain (OpenSpec.ofChange startToldSpec)) startToldCard

/-- THE SECOND FORM's CARD OF 'intarsialaw06.StartReads'. -/
def startReadsUptoCard : Claim7 := { stood := { row := startReadsUptoRow, standIns := [], harness := (true, "a5fcc2e4a09c78227f793cbec3f8bfb3a9ff02dab8577607f59bdd9de2cdd2a0"), looks := false }, kinds := [], alts := [], laidByText := true, laidKinds := [.data, .data, .data], laidTests := true, laidLooks := .later }
def StartReadsUptoCardSaid : Prop := Claim7.holds Tryd.pinned (.plain (OpenSpec.upto startReadsSpec)) startReadsUptoCard

/-- THE SECOND FORM's CARD OF 'intarsialaw06.StartBack'. -/
def startBackUptoCard : Claim7 := { stood := { row := startBackUptoRow, standIns := [], harness := (true, "a5fcc2e4a09c78227f793cbec3f8bfb3a9ff02dab8577607f59bdd9de2cdd2a0"), looks := false }, kinds := [], alts := [], laidByText := true, laidKinds := [.data, .data, .data], laidTests := true, laidLooks := .later }
def StartBackUptoCardSaid : Prop := Claim7.holds Tryd.pinned (.plain (OpenSpec.upto startBackSpec)) startBackUptoCard

/-- THE SECOND FORM's CARD OF 'intarsialaw06.StartTold'. -/
def startToldUptoCard : Claim7 := { stood := { row := startToldUptoRow, standIns := [], harness := (true, "a5fcc2e4a09c78227f793cbec3f8bfb3a9ff02dab8577607f59bdd9de2cdd2a0"), looks := false }, kinds := [], alts := [], laidByText := true, laidKinds := [.data, .data, .data], laidTests := true, laidLooks := .later }
def StartToldUptoCardSaid : Prop := Claim7.holds Tryd.pinned (.plain (OpenSpec.upto startToldSpec)) startToldUptoCard
end Rows
end Go.Proofs.YthpankelfhhjgaaDoor
