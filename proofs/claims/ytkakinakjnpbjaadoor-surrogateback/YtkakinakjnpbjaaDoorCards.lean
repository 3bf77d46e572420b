/-
  DERIVED. GIVEN WITH THE SEED: THE CARDS: each row of YtkakinakjnpbjaaDoorRows.lean that lists a variable, with what it lists TIED to the program's text (the seventh form; the later family's looks); each row that meets fmt, with fmt's text TOLD by the authors' own Lean function (tested against real Go, not proved from fmt's source: count such statements apart). THE CARD IS WHAT COUNTS. Prove the row's statement (the work); the ties are given (YtkakinakjnpbjaaDoorTie.lean); close each card by the builder's one call (the guide's Derived/Test/ToyasCard.lean, 'card_holds'). Laid BY PROGRAM, IN A SANDBOX (cutbox-door.mjs). By AI agents, Wed Nov 11 2026. No macro, syntax, notation, axiom, sorry.
-/
import Derived.Test.YtkakinakjnpbjaaDoorRows
import GoSem.ClaimSeven
namespace Go.Proofs.YtkakinakjnpbjaaDoor
namespace Rows

/-- THE TIED CARD OF 'intarsialaw12.SurrogateReads'. -/
def surrogateReadsCard : Claim7 := { stood := { row := surrogateReadsRow, standIns := [], harness := (true, "1ac2d37139ddbbb050e76335f60f71638c06bb8b5d7d7950952aaf110914df88"), looks := false }, kinds := [], alts := [], laidByText := true, laidKinds := [.data, .pinned], laidTests := true, laidLooks := .later }
def SurrogateReadsCardSaid : Prop := Claim7.holds Tryd.pinned (.plain (OpenSpec.ofChange surrogateReadsSpec)) surrogateReadsCard

/-- THE TIED CARD OF 'intarsialaw12.SurrogateBack'. -/
def surrogateBackCard : Claim7 := { stood := { row := surrogateBackRow, standIns := [], harness := (true, "1ac2d37139ddbbb050e76335f60f71638c06bb8b5d7d7950952aaf110914df88"), looks := false }, kinds := [], alts := [], laidByText := true, laidKinds := [.data, .pinned], laidTests := true, laidLooks := .later }
def SurrogateBackCardSaid : Prop := Claim7.holds Tryd.pinned (.plain (OpenSpec.ofChange surrogateBackSpec)) surrogateBackCard

/-- THE TIED CARD OF 'intarsialaw12.SurrogateDevices'. -/
def surrogateDevicesCard : Claim7 := { stood := { row := surrogateDevicesRow, standIns := [], harness := (true, "1ac2d37139ddbbb050e76335f60f71638c06bb8b5d7d7950952aaf110914df88"), looks := false }, kinds := [], alts := [], laidByText := true, laidKinds := [.data, .pinned], laidTests := true, laidLooks := .later }
def SurrogateDevicesCardSaid : Prop := Claim7.holds Tryd.pinned (.plain (OpenSpec.ofChange surrogateDevicesSpec)) surrogateDevicesCard

/-- THE TIED CARD OF 'intarsialaw12.SurrogateJoins'. -/
def surrogateJoinsCard : Claim7 := { stood := { row := surrogateJoinsRow, standIns := [], harness := (true, "1ac2d37139ddbbb050e76335f60f71638c06bb8b5d7d7950952aaf110914df88"), looks := false }, kinds := [], alts := [], laidByText := true, laidKinds := [.data, .pinned], laidTests := true, laidLooks := .later }
def SurrogateJoinsCardSaid : Prop := Claim7.holds Tryd.pinned (.plain (OpenSpec.ofChange surrogateJoinsSpec)) surrogateJoinsCard

/-- THE SECOND FORM's CARD OF 'intarsialaw12.SurrogateReads'. -/
def surrogateReadsUptoCard : Claim7 := { stood := { row := surrogateReadsUptoRow, standIns := [], harness := (true, "1ac2d37139ddbbb050e76335f60f71638c06bb8b5d7d7950952aaf110914df88"), looks := false }, kinds := [], alts := [], laidByText := true, laidKinds := [.data, .pinned], laidTests := true, laidLooks := .later }
def SurrogateReadsUptoCardSaid : Prop := Claim7.holds Tryd.pinned (.plain (OpenSpec.upto surrogateReadsSpec)) surrogateReadsUptoCard

/-- THE SECOND FORM's CARD OF 'intarsialaw12.SurrogateBack'. -/
def surrogateBackUptoCard : Claim7 := { stood := { row := surrogateBackUptoRow, standIns := [], harness := (true, "1ac2d37139ddbbb050e76335f60f71638c06bb8b5d7d7950952aaf110914df88"), looks := false }, kinds := [], alts := [], laidByText := true, laidKinds := [.data, .pinned], laidTests := true, laidLooks := .later }
def SurrogateBackUptoCardSaid : Prop := Claim7.holds Tryd.pinned (.plain (OpenSpec.upto surrogateBackSpec)) surrogateBackUptoCard

/-- THE SECOND FORM's CARD OF 'intarsialaw12.SurrogateDevices'. -/
def surrogateDevicesUptoCard : Claim7 := { stood := { row := surrogateDevicesUptoRow, standIns := [], harness := (true, "1ac2d37139ddbbb050e76335f60f71638c06bb8b5d7d7950952aaf110914df88"), looks := false }, kinds := [], alts := [], laidByText := true, laidKinds := [.data, .pinned], laidTests := true, laidLooks := .later }
def SurrogateDevicesUptoCardSaid : Prop := Claim7.holds Tryd.pinned (.plain (OpenSpec.upto surrogateDevicesSpec)) surrogateDevicesUptoCard

/-- THE SECOND FORM's CARD OF 'intarsialaw12.SurrogateJoins'. -/
def surrogateJoinsUptoCard : Claim7 := { stood := { row := surrogateJoinsUptoRow, standIns := [], harness := (true, "1ac2d37139ddbbb050e76335f60f71638c06bb8b5d7d7950952aaf110914df88"), looks := false }, kinds := [], alts := [], laidByText := true, laidKinds := [.data, .pinned], laidTests := true, laidLooks := .later }
def SurrogateJoinsUptoCardSaid : Prop := Claim7.holds Tryd.pinned (.plain (OpenSpec.upto surrogateJoinsSpec)) surrogateJoinsUptoCard
end Rows
end Go.Proofs.YtkakinakjnpbjaaDoor
