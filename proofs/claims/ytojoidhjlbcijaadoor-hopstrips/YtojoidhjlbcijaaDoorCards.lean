/-
  DERIVED. GIVEN WITH THE SEED: THE CARDS: each row of YtojoidhjlbcijaaDoorRows.lean that lists a variable, with what it lists TIED to the program's text (the seventh form; the later family's looks); each row that meets fmt, with fmt's text TOLD by the authors' own Lean function (tested against real Go, not proved from fmt's source: count such statements apart). THE CARD IS WHAT COUNTS. Prove the row's statement (the work); the ties are given (YtojoidhjlbcijaaDoorTie.lean); close each card by the builder's one call (the guide's Derived/Test/ToyasCard.lean, 'card_holds'). Laid BY PROGRAM, IN A SANDBOX (cutbox-door.mjs). By AI agents, Wed Nov 11 2026. No macro, syntax, notation, axiom, sorry.
-/
import Derived.Test.YtojoidhjlbcijaaDoorRows
import GoSem.ClaimSeven
namespace Go.Proofs.YtojoidhjlbcijaaDoor
namespace Rows

/-- THE TIED CARD OF 'intarsialaw13.HopStrips'. -/
def hopStripsCard : Claim7 := { stood := { row := hopStripsRow, standIns := [], harness := (true, "4854bb078d7b7a151de0dd6cff3d71eb82a0c12dff28eccace3a3467c9ede886"), looks := false }, kinds := [], alts := [], laidByText := true, laidKinds := [.data, .pinned], laidTests := true, laidLooks := .later }
def HopStripsCardSaid : Prop := Claim7.holds Tryd.pinned (.plain (OpenSpec.ofChange hopStripsSpec)) hopStripsCard

/-- THE TIED CARD OF 'intarsialaw13.HopStays'. -/
def hopStaysCard : Claim7 := { stood := { row := hopStaysRow, standIns := [], harness := (true, "4854bb078d7b7a151de0dd6cff3d71eb82a0c12dff28eccace3a3467c9ede886"), looks := false }, kinds := [], alts := [], laidByText := true, laidKinds := [.data, .pinned], laidTests := true, laidLooks := .later }
def HopStaysCardSaid : Prop := Claim7.holds Tryd.pinned (.plain (OpenSpec.ofChange hopStaysSpec)) hopStaysCard

/-- THE TIED CARD OF 'intarsialaw13.HopCan'. -/
def hopCanCard : Claim7 := { stood := { row := hopCanRow, standIns := [], harness := (true, "4854bb078d7b7a151de0dd6cff3d71eb82a0c12dff28eccace3a3467c9ede886"), looks := false }, kinds := [], alts := [], laidByText := true, laidKinds := [.data, .pinned], laidTests := true, laidLooks := .later }
def HopCanCardSaid : Prop := Claim7.holds Tryd.pinned (.plain (OpenSpec.ofChange hopCanSpec)) hopCanCard

/-- THE TIED CARD OF 'intarsialaw13.HopKeeps'. -/
def hopKeepsCard : Claim7 := { stood := { row := hopKeepsRow, standIns := [], harness := (true, "4854bb078d7b7a151de0dd6cff3d71eb82a0c12dff28eccace3a3467c9ede886"), looks := false }, kinds := [], alts := [], laidByText := true, laidKinds := [.data, .pinned], laidTests := true, laidLooks := .later }
def HopKeepsCardSaid : Prop := Claim7.holds Tryd.pinned (.plain (OpenSpec.ofChange hopKeepsSpec)) hopKeepsCard

/-- THE TIED CARD OF 'intarsialaw13.HopTwice'. -/
def hopTwiceCard : Claim7 := { stood := { row := hopTwiceRow, standIns := [], harness := (true, "4854bb078d7b7a151de0dd6cff3d71eb82a0c12dff28eccace3a3467c9ede886"), looks := false }, kinds := [], alts := [], laidByText := true, laidKinds := [.data, .pinned], laidTests := true, laidLooks := .later }
def HopTwiceCardSaid : Prop := Claim7.holds Tryd.pinned (.plain (OpenSpec.ofChange hopTwiceSpec)) hopTwiceCard

/-- THE SECOND FORM's CARD OF 'intarsialaw13.HopStrips'. -/
def hopStripsUptoCard : Claim7 := { stood := { row := hopStripsUptoRow, standIns := [], harness := (true, "4854bb078d7b7a151de0dd6cff3d71eb82a0c12dff28eccace3a3467c9ede886"), looks := false }, kinds := [], alts := [], laidByText := true, laidKinds := [.data, .pinned], laidTests := true, laidLooks := .later }
def HopStripsUptoCardSaid : Prop := Claim7.holds Tryd.pinned (.plain (OpenSpec.upto hopStripsSpec)) hopStripsUptoCard

/-- THE SECOND FORM's CARD OF 'intarsialaw13.HopStays'. -/
def hopStaysUptoCard : Claim7 := { stood := { row := hopStaysUptoRow, standIns := [], harness := (true, "4854bb078d7b7a151de0dd6cff3d71eb82a0c12dff28eccace3a3467c9ede886"), looks := false }, kinds := [], alts := [], laidByText := true, laidKinds := [.data, .pinned], laidTests := true, laidLooks := .later }
def HopStaysUptoCardSaid : Prop := Claim7.holds Tryd.pinned (.plain (OpenSpec.upto hopStaysSpec)) hopStaysUptoCard

/-- THE SECOND FORM's CARD OF 'intarsialaw13.HopCan'. -/
def hopCanUptoCard : Claim7 := { stood := { row := hopCanUptoRow, standIns := [], harness := (true, "4854bb078d7b7a151de0dd6cff3d71eb82a0c12dff28eccace3a3467c9ede886"), looks := false }, kinds := [], alts := [], laidByText := true, laidKinds := [.data, .pinned], laidTests := true, laidLooks := .later }
def HopCanUptoCardSaid : Prop := Claim7.holds Tryd.pinned (.plain (OpenSpec.upto hopCanSpec)) hopCanUptoCard

/-- THE SECOND FORM's CARD OF 'intarsialaw13.HopKeeps'. -/
def hopKeepsUptoCard : Claim7 := { stood := { row := hopKeepsUptoRow, standIns := [], harness := (true, "4854bb078d7b7a151de0dd6cff3d71eb82a0c12dff28eccace3a3467c9ede886"), looks := false }, kinds := [], alts := [], laidByText := true, laidKinds := [.data, .pinned], laidTests := true, laidLooks := .later }
def HopKeepsUptoCardSaid : Prop := Claim7.holds Tryd.pinned (.plain (OpenSpec.upto hopKeepsSpec)) hopKeepsUptoCard

/-- THE SECOND FORM's CARD OF 'intarsialaw13.HopTwice'. -/
def hopTwiceUptoCard : Claim7 := { stood := { row := hopTwiceUptoRow, standIns := [], harness := (true, "4854bb078d7b7a151de0dd6cff3d71eb82a0c12dff28eccace3a3467c9ede886"), looks := false }, kinds := [], alts := [], laidByText := true, laidKinds := [.data, .pinned], laidTests := true, laidLooks := .later }
def HopTwiceUptoCardSaid : Prop := Claim7.holds Tryd.pinned (.plain (OpenSpec.upto hopTwiceSpec)) hopTwiceUptoCard
end Rows
end Go.Proofs.YtojoidhjlbcijaaDoor
