/-
  No cell of these rows narrows 'for every input' (looked for: loops, veiled, ifaces, maps, wideKeys, modest, calm, conditions, laid).
  DERIVED. THE GIVEN ROWS OF THIS SEAT. 7 by the template 'for every input the law returns true; each argument reads behind the call as it read before'; 0 by the template 'total and deterministic' (their statements: YtlgdjdkekpfphaaTotals.lean).
  GIVEN WITH THE SEED: the statements are not yours to turn. If you find one false, say at which input.
  Laid BY PROGRAM, IN A SANDBOX (cutbox-rows.mjs): the forced cells as the released guide's own fill.sh prints them over the translation 718bb14fa0dc8719… (all of the seat's roots in one cut). By AI agents, Wed Nov 11 2026. No macro, syntax, notation, axiom, sorry.
-/
import Derived.Test.YtlgdjdkekpfphaaChecked
import GoSem.Claim
import GoSem.ClaimJoined
import GoSem.ClaimMapViews
import Derived.JoinedTies
import Derived.KernelRfl
namespace Go.Proofs.Ytlgdjdkekpfphaa
/- THE CELL 'sum', in the pinned program and in every row, IS THE sha256 OF THE DUMP (.gsa) THAT YtlgdjdkekpfphaaProg.lean LOADS. Nothing in Lean hashes anything: it is a label: what it is worth is what the hold of that sum in a sandbox is worth. -/
noncomputable def Try.pinned : Pinned := { name := "ytlgdjdkekpfphaa", sum := "718bb14fa0dc87199243a08bc7db3b60dbcc54222dcb833cf205e93fa4f5dc47", checked := Try.checked }
namespace Rows
def none {H : Type} : Left H := { results := [], args := [] }

/-- 'intarsialaw03.TextWords': WHATEVER THE INPUT: true; the input reads as it did. -/
def textWordsSpec : ChangeSpec := { name := "textWords", fn := fun _ => fun
  | [d1, d2] => { results := [.lit (.bool true)], args := [d1, d2] }
  | _ => none }
def textWordsRow : OpenClaim := { program := "ytlgdjdkekpfphaa", sum := "718bb14fa0dc87199243a08bc7db3b60dbcc54222dcb833cf205e93fa4f5dc47", func := "intarsia/intarsialaw03.TextWords", spec := "textWords", unfollowed := true, recurses := true, apart := false }
def TextWordsSaid : Prop := textWordsRow.holds Try.pinned (OpenSpec.ofChange textWordsSpec)

/-- ITS FALSE NEIGHBOUR: 'it returns false'. Refute it at one input. -/
def textWordsWrong : ChangeSpec := { name := "textWords", fn := fun _ => fun
  | [d1, d2] => { results := [.lit (.bool false)], args := [d1, d2] }
  | _ => none }
def TextWordsWrongFalsely : Prop := textWordsRow.holds Try.pinned (OpenSpec.ofChange textWordsWrong)

/-- 'intarsialaw03.TextSplits': WHATEVER THE INPUT: true; the input reads as it did. -/
def textSplitsSpec : ChangeSpec := { name := "textSplits", fn := fun _ => fun
  | [d1, d2] => { results := [.lit (.bool true)], args := [d1, d2] }
  | _ => none }
def textSplitsRow : OpenClaim := { program := "ytlgdjdkekpfphaa", sum := "718bb14fa0dc87199243a08bc7db3b60dbcc54222dcb833cf205e93fa4f5dc47", func := "intarsia/intarsialaw03.TextSplits", spec := "textSplits", unfollowed := true, recurses := true, apart := false }
def TextSplitsSaid : Prop := textSplitsRow.holds Try.pinned (OpenSpec.ofChange textSplitsSpec)

/-- ITS FALSE NEIGHBOUR: 'it returns false'. Refute it at one input. -/
def textSplitsWrong : ChangeSpec := { name := "textSplits", fn := fun _ => fun
  | [d1, d2] => { results := [.lit (.bool false)], args := [d1, d2] }
  | _ => none }
def TextSplitsWrongFalsely : Prop := textSplitsRow.holds Try.pinned (OpenSpec.ofChange textSplitsWrong)

/-- 'intarsialaw03.TextQuotes': WHATEVER THE INPUT: true; the input reads as it did. -/
def textQuotesSpec : ChangeSpec := { name := "textQuotes", fn := fun _ => fun
  | [d] => { results := [.lit (.bool true)], args := [d] }
  | _ => none }
def textQuotesRow : OpenClaim := { program := "ytlgdjdkekpfphaa", sum := "718bb14fa0dc87199243a08bc7db3b60dbcc54222dcb833cf205e93fa4f5dc47", func := "intarsia/intarsialaw03.TextQuotes", spec := "textQuotes", unfollowed := true, recurses := true, apart := false }
def TextQuotesSaid : Prop := textQuotesRow.holds Try.pinned (OpenSpec.ofChange textQuotesSpec)

/-- ITS FALSE NEIGHBOUR: 'it returns false'. Refute it at one input. -/
def textQuotesWrong : ChangeSpec := { name := "textQuotes", fn := fun _ => fun
  | [d] => { results := [.lit (.bool false)], args := [d] }
  | _ => none }
def TextQuotesWrongFalsely : Prop := textQuotesRow.holds Try.pinned (OpenSpec.ofChange textQuotesWrong)

/-- 'intarsialaw03.TextBack': WHATEVER THE INPUT: true; the input reads as it did. -/
def textBackSpec : ChangeSpec := { name := "textBack", fn := fun _ => fun
  | [d1, d2] => { results := [.lit (.bool true)], args := [d1, d2] }
  | _ => none }
def textBackRow : OpenClaim := { program := "ytlgdjdkekpfphaa", sum := "718bb14fa0dc87199243a08bc7db3b60dbcc54222dcb833cf205e93fa4f5dc47", func := "intarsia/intarsialaw03.TextBack", spec := "textBack", unfollowed := true, recurses := true, apart := false }
def TextBackSaid : Prop := textBackRow.holds Try.pinned (OpenSpec.ofChange textBackSpec)

/-- ITS FALSE NEIGHBOUR: 'it returns false'. Refute it at one input. -/
def textBackWrong : ChangeSpec := { name := "textBack", fn := fun _ => fun
  | [d1, d2] => { results := [.lit (.bool false)], args := [d1, d2] }
  | _ => none }
def TextBackWrongFalsely : Prop := textBackRow.holds Try.pinned (OpenSpec.ofChange textBackWrong)

/-- 'intarsialaw03.TextJoins': WHATEVER THE INPUT: true; the input reads as it did. -/
def textJoinsSpec : ChangeSpec := { name := "textJoins", fn := fun _ => fun
  | [d1, d2] => { results := [.lit (.bool true)], args := [d1, d2] }
  | _ => none }
def textJoinsRow : OpenClaim := { program := "ytlgdjdkekpfphaa", sum := "718bb14fa0dc87199243a08bc7db3b60dbcc54222dcb833cf205e93fa4f5dc47", func := "intarsia/intarsialaw03.TextJoins", spec := "textJoins", unfollowed := true, recurses := true, apart := false }
def TextJoinsSaid : Prop := textJoinsRow.holds Try.pinned (OpenSpec.ofChange textJoinsSpec)

/-- ITS FALSE NEIGHBOUR: 'it returns false'. Refute it at one input. -/
def textJoinsWrong : ChangeSpec := { name := "textJoins", fn := fun _ => fun
  | [d1, d2] => { results := [.lit (.bool false)], args := [d1, d2] }
  | _ => none }
def TextJoinsWrongFalsely : Prop := textJoinsRow.holds Try.pinned (OpenSpec.ofChange textJoinsWrong)

/-- 'intarsialaw03.TextSmall': WHATEVER THE INPUT: true; the input reads as it did. -/
def textSmallSpec : ChangeSpec := { name := "textSmall", fn := fun _ => fun
  | [d1, d2] => { results := [.lit (.bool true)], args := [d1, d2] }
  | _ => none }
def textSmallRow : OpenClaim := { program := "ytlgdjdkekpfphaa", sum := "718bb14fa0dc87199243a08bc7db3b60dbcc54222dcb833cf205e93fa4f5dc47", func := "intarsia/intarsialaw03.TextSmall", spec := "textSmall", unfollowed := true, recurses := true, apart := false }
def TextSmallSaid : Prop := textSmallRow.holds Try.pinned (OpenSpec.ofChange textSmallSpec)

/-- ITS FALSE NEIGHBOUR: 'it returns false'. Refute it at one input. -/
def textSmallWrong : ChangeSpec := { name := "textSmall", fn := fun _ => fun
  | [d1, d2] => { results := [.lit (.bool false)], args := [d1, d2] }
  | _ => none }
def TextSmallWrongFalsely : Prop := textSmallRow.holds Try.pinned (OpenSpec.ofChange textSmallWrong)

/-- 'intarsialaw03.TextTrims': WHATEVER THE INPUT: true; the input reads as it did. -/
def textTrimsSpec : ChangeSpec := { name := "textTrims", fn := fun _ => fun
  | [d1, d2] => { results := [.lit (.bool true)], args := [d1, d2] }
  | _ => none }
def textTrimsRow : OpenClaim := { program := "ytlgdjdkekpfphaa", sum := "718bb14fa0dc87199243a08bc7db3b60dbcc54222dcb833cf205e93fa4f5dc47", func := "intarsia/intarsialaw03.TextTrims", spec := "textTrims", unfollowed := true, recurses := true, apart := false }
def TextTrimsSaid : Prop := textTrimsRow.holds Try.pinned (OpenSpec.ofChange textTrimsSpec)

/-- ITS FALSE NEIGHBOUR: 'it returns false'. Refute it at one input. -/
def textTrimsWrong : ChangeSpec := { name := "textTrims", fn := fun _ => fun
  | [d1, d2] => { results := [.lit (.bool false)], args := [d1, d2] }
  | _ => none }
def TextTrimsWrongFalsely : Prop := textTrimsRow.holds Try.pinned (OpenSpec.ofChange textTrimsWrong)

/- THE SECOND FORM. 'bulk': how many values and letters a reading holds, each counted each time it is reached (what is shared counts as often as it is met; a slice's spare places count too). A statement '..UptoSaid' is the law's where the arguments, and the package variables that the reading takes, are together of bulk at most 1048576: NARROWER than '..Said'. Prove '..Said' where nothing that the law and all that it calls make is longer than what came in: it says more and counts as full. Else prove '..UptoSaid'. A law counts once. -/
mutual
def uptoBulk {H : Type} : DataW H → Nat
  | .lit (.string bytes) => bytes.length + 1
  | .lit _ => 1
  | .nil => 1
  | .ptr d => uptoBulk d + 1
  | .slice elems spare => uptoBulkAll elems + uptoBulkAll spare + 1
  | .agg parts => uptoBulkAll parts + 1
  | .iface _ d => uptoBulk d + 1
  | .map entries => uptoBulkEntries entries + 1
  | .held _ => 1
def uptoBulkAll {H : Type} : List (DataW H) → Nat
  | [] => 0
  | d :: r => uptoBulk d + uptoBulkAll r
def uptoBulkEntries {H : Type} : List (Lit × DataW H) → Nat
  | [] => 0
  | x :: r => uptoBulkEntry x + uptoBulkEntries r
def uptoBulkEntry {H : Type} : Lit × DataW H → Nat
  | (.string bytes, d) => bytes.length + uptoBulk d + 1
  | (_, d) => uptoBulk d + 1
 end
def uptoSmall : (H : Type) → List (DataW H) → Bool := fun _ ds => decide (uptoBulkAll ds ≤ 1048576)
def OpenSpec.upto (s : _root_.Go.ChangeSpec) : _root_.Go.OpenSpec := { _root_.Go.OpenSpec.ofChange s with cond := some uptoSmall }

/-- 'intarsialaw03.TextWords', WHERE WHAT IT READS IS OF BULK AT MOST 1048576: true; the input reads as it did. -/
def textWordsUptoRow : OpenClaim := { program := "ytlgdjdkekpfphaa", sum := "718bb14fa0dc87199243a08bc7db3b60dbcc54222dcb833cf205e93fa4f5dc47", func := "intarsia/intarsialaw03.TextWords", spec := "textWords", unfollowed := true, recurses := true, apart := false, narrowed := true }
def TextWordsUptoSaid : Prop := textWordsUptoRow.holds Try.pinned (OpenSpec.upto textWordsSpec)

/-- 'intarsialaw03.TextSplits', WHERE WHAT IT READS IS OF BULK AT MOST 1048576: true; the input reads as it did. -/
def textSplitsUptoRow : OpenClaim := { program := "ytlgdjdkekpfphaa", sum := "718bb14fa0dc87199243a08bc7db3b60dbcc54222dcb833cf205e93fa4f5dc47", func := "intarsia/intarsialaw03.TextSplits", spec := "textSplits", unfollowed := true, recurses := true, apart := false, narrowed := true }
def TextSplitsUptoSaid : Prop := textSplitsUptoRow.holds Try.pinned (OpenSpec.upto textSplitsSpec)

/-- 'intarsialaw03.TextQuotes', WHERE WHAT IT READS IS OF BULK AT MOST 1048576: true; the input reads as it did. -/
def textQuotesUptoRow : OpenClaim := { program := "ytlgdjdkekpfphaa", sum := "718bb14fa0dc87199243a08bc7db3b60dbcc54222dcb833cf205e93fa4f5dc47", func := "intarsia/intarsialaw03.TextQuotes", spec := "textQuotes", unfollowed := true, recurses := true, apart := false, narrowed := true }
def TextQuotesUptoSaid : Prop := textQuotesUptoRow.holds Try.pinned (OpenSpec.upto textQuotesSpec)

/-- 'intarsialaw03.TextBack', WHERE WHAT IT READS IS OF BULK AT MOST 1048576: true; the input reads as it did. -/
def textBackUptoRow : OpenClaim := { program := "ytlgdjdkekpfphaa", sum := "718bb14fa0dc87199243a08bc7db3b60dbcc54222dcb833cf205e93fa4f5dc47", func := "intarsia/intarsialaw03.TextBack", spec := "textBack", unfollowed := true, recurses := true, apart := false, narrowed := true }
def TextBackUptoSaid : Prop := textBackUptoRow.holds Try.pinned (OpenSpec.upto textBackSpec)

/-- 'intarsialaw03.TextJoins', WHERE WHAT IT READS IS OF BULK AT MOST 1048576: true; the input reads as it did. -/
def textJoinsUptoRow : OpenClaim := { program := "ytlgdjdkekpfphaa", sum := "718bb14fa0dc87199243a08bc7db3b60dbcc54222dcb833cf205e93fa4f5dc47", func := "intarsia/intarsialaw03.TextJoins", spec := "textJoins", unfollowed := true, recurses := true, apart := false, narrowed := true }
def TextJoinsUptoSaid : Prop := textJoinsUptoRow.holds Try.pinned (OpenSpec.upto textJoinsSpec)

/-- 'intarsialaw03.TextSmall', WHERE WHAT IT READS IS OF BULK AT MOST 1048576: true; the input reads as it did. -/
def textSmallUptoRow : OpenClaim := { program := "ytlgdjdkekpfphaa", sum := "718bb14fa0dc87199243a08bc7db3b60dbcc54222dcb833cf205e93fa4f5dc47", func := "intarsia/intarsialaw03.TextSmall", spec := "textSmall", unfollowed := true, recurses := true, apart := false, narrowed := true }
def TextSmallUptoSaid : Prop := textSmallUptoRow.holds Try.pinned (OpenSpec.upto textSmallSpec)

/-- 'intarsialaw03.TextTrims', WHERE WHAT IT READS IS OF BULK AT MOST 1048576: true; the input reads as it did. -/
def textTrimsUptoRow : OpenClaim := { program := "ytlgdjdkekpfphaa", sum := "718bb14fa0dc87199243a08bc7db3b60dbcc54222dcb833cf205e93fa4f5dc47", func := "intarsia/intarsialaw03.TextTrims", spec := "textTrims", unfollowed := true, recurses := true, apart := false, narrowed := true }
def TextTrimsUptoSaid : Prop := textTrimsUptoRow.holds Try.pinned (OpenSpec.upto textTrimsSpec)

end Rows
end Go.Proofs.Ytlgdjdkekpfphaa
