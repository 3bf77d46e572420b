/-
  DERIVED. GIVEN WITH THE SEED: THE CARDS: each row of YtjegoceebdiaaaaDoorRows.lean that lists a variable, with what it lists TIED to the program's text (the seventh form; the later family's looks); each row that meets fmt, with fmt's text TOLD by the authors' own Lean function (tested against real Go, not proved from fmt's source: count such statements apart). THE CARD IS WHAT COUNTS. Prove the row's statement (the work); the ties are given (YtjegoceebdiaaaaDoorTie.lean); close each card by the builder's one call (the guide's Derived/Test/ToyasCard.lean, 'card_holds'). Laid BY PROGRAM, IN A SANDBOX (cutbox-door.mjs). By AI agents, Wed Nov 11 2026. No macro, syntax, notation, axiom, sorry.
-/
import Derived.Test.YtjegoceebdiaaaaDoorRows
import GoSem.ClaimSeven
namespace Go.Proofs.YtjegoceebdiaaaaDoor
namespace Rows

/-- THE TIED CARD OF 'intarsialaw05.UriReads'. -/
def uriReadsCard : Claim7 := { stood := { row := uriReadsRow, standIns := [], harness := (true, "b7620729946dc803eb73078d0502e3e3f69fcd25738f2352b709167fff7c97a0"), looks := false }, kinds := [], alts := [], laidByText := true, laidKinds := [.data, .data, .data], laidTests := true, laidLooks := .later }
def UriReadsCardSaid : Prop := Claim7.holds Tryd.pinned (.plain (OpenSpec.ofChange uriReadsSpec)) uriReadsCard

/-- THE TIED CARD OF 'intarsialaw05.UriResolves'. -/
def uriResolvesCard : Claim7 := { stood := { row := uriResolvesRow, standIns := [], harness := (true, "b7620729946dc803eb73078d0502e3e3f69fcd25738f2352b709167fff7c97a0"), looks := false }, kinds := [], alts := [], laidByText := true, laidKinds := [.data, .data, .data], laidTests := true, laidLooks := .later }
def UriResolvesCardSaid : Prop := Claim7.holds Tryd.pinned (.plain (OpenSpec.ofChange uriResolvesSpec)) uriResolvesCard

/-- THE TIED CARD OF 'intarsialaw05.UriBack'. -/
def uriBackCard : Claim7 := { stood := { row := uriBackRow, standIns := [], harness := (true, "b7620729946dc803eb73078d0502e3e3f69fcd25738f2352b709167fff7c97a0"), looks := false }, kinds := [], alts := [], laidByText := true, laidKinds := [.data, .data, .data], laidTests := true, laidLooks := .later }
def UriBackCardSaid : Prop := Claim7.holds Tryd.pinned (.plain (OpenSpec.ofChange uriBackSpec)) uriBackCard

/-- THE TIED CARD OF 'intarsialaw05.UriStays'. -/
def uriStaysCard : Claim7 := { stood := { row := uriStaysRow, standIns := [], harness := (true, "b7620729946dc803eb73078d0502e3e3f69fcd25738f2352b709167fff7c97a0"), looks := false }, kinds := [], alts := [], laidByText := true, laidKinds := [.data, .data, .data, .data, .pinned], laidTests := true, laidLooks := .later }
def UriStaysCardSaid : Prop := Claim7.holds Tryd.pinned (.plain (OpenSpec.ofChange uriStaysSpec)) uriStaysCard

/-- THE TIED CARD OF 'intarsialaw05.UriQueries'. -/
def uriQueriesCard : Claim7 := { stood := { row := uriQueriesRow, standIns := [], harness := (true, "b7620729946dc803eb73078d0502e3e3f69fcd25738f2352b709167fff7c97a0"), looks := false }, kinds := [], alts := [], laidByText := true, laidKinds := [.data, .data, .data], laidTests := true, laidLooks := .later }
def UriQueriesCardSaid : Prop := Claim7.holds Tryd.pinned (.plain (OpenSpec.ofChange uriQueriesSpec)) uriQueriesCard

/-- THE TIED CARD OF 'intarsialaw05.UriHosts'. -/
def uriHostsCard : Claim7 := { stood := { row := uriHostsRow, standIns := [], harness := (true, "b7620729946dc803eb73078d0502e3e3f69fcd25738f2352b709167fff7c97a0"), looks := false }, kinds := [], alts := [], laidByText := true, laidKinds := [.data, .data, .data, .data, .pinned, .pinned], laidTests := true, laidLooks := .later }
def UriHostsCardSaid : Prop := Claim7.holds Tryd.pinned (.plain (OpenSpec.ofChange uriHostsSpec)) uriHostsCard

/-- THE SECOND FORM's CARD OF 'intarsialaw05.UriReads'. -/
def uriReadsUptoCard : Claim7 := { stood := { row := uriReadsUptoRow, standIns := [], harness := (true, "b7620729946dc803eb73078d0502e3e3f69fcd25738f2352b709167fff7c97a0"), looks := false }, kinds := [], alts := [], laidByText := true, laidKinds := [.data, .data, .data], laidTests := true, laidLooks := .later }
def UriReadsUptoCardSaid : Prop := Claim7.holds Tryd.pinned (.plain (OpenSpec.upto uriReadsSpec)) uriReadsUptoCard

/-- THE SECOND FORM's CARD OF 'intarsialaw05.UriResolves'. -/
def uriResolvesUptoCard : Claim7 := { stood := { row := uriResolvesUptoRow, standIns := [], harness := (true, "b7620729946dc803eb73078d0502e3e3f69fcd25738f2352b709167fff7c97a0"), looks := false }, kinds := [], alts := [], laidByText := true, laidKinds := [.data, .data, .data], laidTests := true, laidLooks := .later }
def UriResolvesUptoCardSaid : Prop := Claim7.holds Tryd.pinned (.plain (OpenSpec.upto uriResolvesSpec)) uriResolvesUptoCard

/-- THE SECOND FORM's CARD OF 'intarsialaw05.UriBack'. -/
def uriBackUptoCard : Claim7 := { stood := { row := uriBackUptoRow, standIns := [], harness := (true, "b7620729946dc803eb73078d0502e3e3f69fcd25738f2352b709167fff7c97a0"), looks := false }, kinds := [], alts := [], laidByText := true, laidKinds := [.data, .data, .data], laidTests := true, laidLooks := .later }
def UriBackUptoCardSaid : Prop := Claim7.holds Tryd.pinned (.plain (OpenSpec.upto uriBackSpec)) uriBackUptoCard

/-- THE SECOND FORM's CARD OF 'intarsialaw05.UriStays'. -/
def uriStaysUptoCard : Claim7 := { stood := { row := uriStaysUptoRow, standIns := [], harness := (true, "b7620729946dc803eb73078d0502e3e3f69fcd25738f2352b709167fff7c97a0"), looks := false }, kinds := [], alts := [], laidByText := true, laidKinds := [.data, .data, .data, .data, .pinned], laidTests := true, laidLooks := .later }
def UriStaysUptoCardSaid : Prop := Claim7.holds Tryd.pinned (.plain (OpenSpec.upto uriStaysSpec)) uriStaysUptoCard

/-- THE SECOND FORM's CARD OF 'intarsialaw05.UriQueries'. -/
def uriQueriesUptoCard : Claim7 := { stood := { row := uriQueriesUptoRow, standIns := [], harness := (true, "b7620729946dc803eb73078d0502e3e3f69fcd25738f2352b709167fff7c97a0"), looks := false }, kinds := [], alts := [], laidByText := true, laidKinds := [.data, .data, .data], laidTests := true, laidLooks := .later }
def UriQueriesUptoCardSaid : Prop := Claim7.holds Tryd.pinned (.plain (OpenSpec.upto uriQueriesSpec)) uriQueriesUptoCard

/-- THE SECOND FORM's CARD OF 'intarsialaw05.UriHosts'. -/
def uriHostsUptoCard : Claim7 := { stood := { row := uriHostsUptoRow, standIns := [], harness := (true, "b7620729946dc803eb73078d0502e3e3f69fcd25738f2352b709167fff7c97a0"), looks := false }, kinds := [], alts := [], laidByText := true, laidKinds := [.data, .data, .data, .data, .pinned, .pinned], laidTests := true, laidLooks := .later }
def UriHostsUptoCardSaid : Prop := Claim7.holds Tryd.pinned (.plain (OpenSpec.upto uriHostsSpec)) uriHostsUptoCard
end Rows
end Go.Proofs.YtjegoceebdiaaaaDoor
