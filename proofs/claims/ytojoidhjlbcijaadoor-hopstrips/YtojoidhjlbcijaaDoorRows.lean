/-
  NARROWER THAN 'FOR EVERY INPUT', by the rows' own cells (each row's printed sentence says how): HopStrips: laid · HopStays: laid · HopCan: laid · HopKeeps: laid · HopTwice: laid.
  DERIVED. THE GIVEN ROWS OF THIS SEAT. 5 by the template 'for every input the law returns true; each argument reads behind the call as it read before'; 0 by the template 'total and deterministic' (their statements: YtojoidhjlbcijaaDoorTotals.lean).
  GIVEN WITH THE SEED: the statements are not yours to turn. If you find one false, say at which input.
  Laid BY PROGRAM, IN A SANDBOX (cutbox-rows.mjs): the forced cells as the released guide's own fill.sh prints them over the translation 82c69eae6d07d5ba… (all of the seat's roots in one cut). By AI agents, Wed Nov 11 2026. No macro, syntax, notation, axiom, sorry.
-/
import Derived.Test.YtojoidhjlbcijaaDoorChecked
import GoSem.PinnedTables
import GoSem.Claim
import GoSem.ClaimJoined
import GoSem.ClaimMapViews
import Derived.JoinedTies
import Derived.KernelRfl
namespace Go.Proofs.YtojoidhjlbcijaaDoor
/- THE CELL 'sum', in the pinned program and in every row, IS THE sha256 OF THE DUMP (.gsa) THAT YtojoidhjlbcijaaDoorProg.lean LOADS. Nothing in Lean hashes anything: it is a label: what it is worth is what the hold of that sum in a sandbox is worth. -/
noncomputable def Tryd.pinned : Pinned := { name := "ytojoidhjlbcijaadoor", sum := "82c69eae6d07d5ba17e9059e2410fa9ab659f390de91aea539e3be61df7a9099", checked := Tryd.checked }
namespace Rows
def none {H : Type} : Left H := { results := [], args := [] }

/- WHAT THE LISTED PACKAGE-LEVEL VARIABLES READ AS WHEN THE CALL BEGINS. Each datum BY PROGRAM (the guide's laid-datum.mjs) off the statement by which the dump's own 'gosem.cut.vars' lays the variable. In a bare row this is a premise. The card (YtojoidhjlbcijaaDoorCards.lean) ties it to the program's text. -/
def laid_unicode_utf8_acceptRanges {H : Type} : DataW H := .agg [.agg [.lit (.int .u8 128), .lit (.int .u8 191)], .agg [.lit (.int .u8 160), .lit (.int .u8 191)], .agg [.lit (.int .u8 128), .lit (.int .u8 159)], .agg [.lit (.int .u8 144), .lit (.int .u8 191)], .agg [.lit (.int .u8 128), .lit (.int .u8 143)], .agg [.lit (.int .u8 0), .lit (.int .u8 0)], .agg [.lit (.int .u8 0), .lit (.int .u8 0)], .agg [.lit (.int .u8 0), .lit (.int .u8 0)], .agg [.lit (.int .u8 0), .lit (.int .u8 0)], .agg [.lit (.int .u8 0), .lit (.int .u8 0)], .agg [.lit (.int .u8 0), .lit (.int .u8 0)], .agg [.lit (.int .u8 0), .lit (.int .u8 0)], .agg [.lit (.int .u8 0), .lit (.int .u8 0)], .agg [.lit (.int .u8 0), .lit (.int .u8 0)], .agg [.lit (.int .u8 0), .lit (.int .u8 0)], .agg [.lit (.int .u8 0), .lit (.int .u8 0)]]
/-- One of Go's own tables, pinned by name: the form's constant. -/
def laid_unicode_utf8_first : DataW Unit := Go.Pinned.utf8First

/-- 'intarsialaw13.HopStrips': WHATEVER THE INPUT: true; the input reads as it did. -/
def hopStripsSpec : ChangeSpec := { name := "hopStrips", fn := fun _ => fun
  | [d1, d2, d3, d4] => { results := [.lit (.bool true)], args := [d1, d2, d3, d4] }
  | _ => none }
def hopStripsRow : OpenClaim := { program := "ytojoidhjlbcijaadoor", sum := "82c69eae6d07d5ba17e9059e2410fa9ab659f390de91aea539e3be61df7a9099", func := "intarsia/intarsialaw13.HopStrips", spec := "hopStrips", inPlace := ["internal/abi.NoEscape", "internal/bytealg.MakeNoZero", "internal/bytealg.IndexByteString", "internal/bytealg.IndexString", "slices.overlaps[intarsia/api.Field]"], unfollowed := true, recurses := true, named := ["unicode/utf8.first", "unicode/utf8.acceptRanges", "internal/bytealg.MaxLen"], apart := false, laid := [("unicode/utf8.acceptRanges", laid_unicode_utf8_acceptRanges), ("unicode/utf8.first", laid_unicode_utf8_first)] }
def HopStripsSaid : Prop := hopStripsRow.holds Tryd.pinned (OpenSpec.ofChange hopStripsSpec)

/-- ITS FALSE NEIGHBOUR: 'it returns false'. Refute it at one input. -/
def hopStripsWrong : ChangeSpec := { name := "hopStrips", fn := fun _ => fun
  | [d1, d2, d3, d4] => { results := [.lit (.bool false)], args := [d1, d2, d3, d4] }
  | _ => none }
def HopStripsWrongFalsely : Prop := hopStripsRow.holds Tryd.pinned (OpenSpec.ofChange hopStripsWrong)

/-- 'intarsialaw13.HopStays': WHATEVER THE INPUT: true; the input reads as it did. -/
def hopStaysSpec : ChangeSpec := { name := "hopStays", fn := fun _ => fun
  | [d] => { results := [.lit (.bool true)], args := [d] }
  | _ => none }
def hopStaysRow : OpenClaim := { program := "ytojoidhjlbcijaadoor", sum := "82c69eae6d07d5ba17e9059e2410fa9ab659f390de91aea539e3be61df7a9099", func := "intarsia/intarsialaw13.HopStays", spec := "hopStays", inPlace := ["internal/abi.NoEscape", "internal/bytealg.MakeNoZero", "internal/bytealg.IndexByteString", "internal/bytealg.IndexString"], unfollowed := true, recurses := true, named := ["unicode/utf8.first", "unicode/utf8.acceptRanges", "internal/bytealg.MaxLen"], apart := false, laid := [("unicode/utf8.acceptRanges", laid_unicode_utf8_acceptRanges), ("unicode/utf8.first", laid_unicode_utf8_first)] }
def HopStaysSaid : Prop := hopStaysRow.holds Tryd.pinned (OpenSpec.ofChange hopStaysSpec)

/-- ITS FALSE NEIGHBOUR: 'it returns false'. Refute it at one input. -/
def hopStaysWrong : ChangeSpec := { name := "hopStays", fn := fun _ => fun
  | [d] => { results := [.lit (.bool false)], args := [d] }
  | _ => none }
def HopStaysWrongFalsely : Prop := hopStaysRow.holds Tryd.pinned (OpenSpec.ofChange hopStaysWrong)

/-- 'intarsialaw13.HopCan': WHATEVER THE INPUT: true; the input reads as it did. -/
def hopCanSpec : ChangeSpec := { name := "hopCan", fn := fun _ => fun
  | [d1, d2, d3] => { results := [.lit (.bool true)], args := [d1, d2, d3] }
  | _ => none }
def hopCanRow : OpenClaim := { program := "ytojoidhjlbcijaadoor", sum := "82c69eae6d07d5ba17e9059e2410fa9ab659f390de91aea539e3be61df7a9099", func := "intarsia/intarsialaw13.HopCan", spec := "hopCan", inPlace := ["internal/abi.NoEscape", "internal/bytealg.MakeNoZero", "internal/bytealg.IndexByteString", "internal/bytealg.IndexString", "slices.overlaps[intarsia/api.Field]"], unfollowed := true, recurses := true, named := ["unicode/utf8.first", "unicode/utf8.acceptRanges", "internal/bytealg.MaxLen"], apart := false, laid := [("unicode/utf8.acceptRanges", laid_unicode_utf8_acceptRanges), ("unicode/utf8.first", laid_unicode_utf8_first)] }
def HopCanSaid : Prop := hopCanRow.holds Tryd.pinned (OpenSpec.ofChange hopCanSpec)

/-- ITS FALSE NEIGHBOUR: 'it returns false'. Refute it at one input. -/
def hopCanWrong : ChangeSpec := { name := "hopCan", fn := fun _ => fun
  | [d1, d2, d3] => { results := [.lit (.bool false)], args := [d1, d2, d3] }
  | _ => none }
def HopCanWrongFalsely : Prop := hopCanRow.holds Tryd.pinned (OpenSpec.ofChange hopCanWrong)

/-- 'intarsialaw13.HopKeeps': WHATEVER THE INPUT: true; the input reads as it did. -/
def hopKeepsSpec : ChangeSpec := { name := "hopKeeps", fn := fun _ => fun
  | [d1, d2] => { results := [.lit (.bool true)], args := [d1, d2] }
  | _ => none }
def hopKeepsRow : OpenClaim := { program := "ytojoidhjlbcijaadoor", sum := "82c69eae6d07d5ba17e9059e2410fa9ab659f390de91aea539e3be61df7a9099", func := "intarsia/intarsialaw13.HopKeeps", spec := "hopKeeps", inPlace := ["internal/abi.NoEscape", "internal/bytealg.MakeNoZero", "internal/bytealg.IndexByteString", "internal/bytealg.IndexString"], unfollowed := true, recurses := true, named := ["unicode/utf8.first", "unicode/utf8.acceptRanges", "internal/bytealg.MaxLen"], apart := false, laid := [("unicode/utf8.acceptRanges", laid_unicode_utf8_acceptRanges), ("unicode/utf8.first", laid_unicode_utf8_first)] }
def HopKeepsSaid : Prop := hopKeepsRow.holds Tryd.pinned (OpenSpec.ofChange hopKeepsSpec)

/-- ITS FALSE NEIGHBOUR: 'it returns false'. Refute it at one input. -/
def hopKeepsWrong : ChangeSpec := { name := "hopKeeps", fn := fun _ => fun
  | [d1, d2] => { results := [.lit (.bool false)], args := [d1, d2] }
  | _ => none }
def HopKeepsWrongFalsely : Prop := hopKeepsRow.holds Tryd.pinned (OpenSpec.ofChange hopKeepsWrong)

/-- 'intarsialaw13.HopTwice': WHATEVER THE INPUT: true; the input reads as it did. -/
def hopTwiceSpec : ChangeSpec := { name := "hopTwice", fn := fun _ => fun
  | [d1, d2] => { results := [.lit (.bool true)], args := [d1, d2] }
  | _ => none }
def hopTwiceRow : OpenClaim := { program := "ytojoidhjlbcijaadoor", sum := "82c69eae6d07d5ba17e9059e2410fa9ab659f390de91aea539e3be61df7a9099", func := "intarsia/intarsialaw13.HopTwice", spec := "hopTwice", inPlace := ["internal/abi.NoEscape", "internal/bytealg.MakeNoZero", "internal/bytealg.IndexByteString", "internal/bytealg.IndexString", "slices.overlaps[intarsia/api.Field]"], unfollowed := true, recurses := true, named := ["unicode/utf8.first", "unicode/utf8.acceptRanges", "internal/bytealg.MaxLen"], apart := false, laid := [("unicode/utf8.acceptRanges", laid_unicode_utf8_acceptRanges), ("unicode/utf8.first", laid_unicode_utf8_first)] }
def HopTwiceSaid : Prop := hopTwiceRow.holds Tryd.pinned (OpenSpec.ofChange hopTwiceSpec)

/-- ITS FALSE NEIGHBOUR: 'it returns false'. Refute it at one input. -/
def hopTwiceWrong : ChangeSpec := { name := "hopTwice", fn := fun _ => fun
  | [d1, d2] => { results := [.lit (.bool false)], args := [d1, d2] }
  | _ => none }
def HopTwiceWrongFalsely : Prop := hopTwiceRow.holds Tryd.pinned (OpenSpec.ofChange hopTwiceWrong)

/- THE SECOND FORM. 'bulk': how many values and letters a reading holds, each counted each time it is reached (what is shared counts as often as it is met; a slice's spare places count too). A statement '..UptoSaid' is the law's where the arguments, and the package variables that the reading takes, are together of bulk at most 1048576: NARROWER than '..Said'. Prove '..Said' where nothing that the law and all that it calls make is longer than what came in: it says more and counts as full. Else prove '..UptoSaid'. A law counts once. -/
mutual
def uptoBulk {H : Type} : DataW H → Nat
  | .lit (.string bytes) => bytes.length + 1
  | .lit _ => 1
  | .nil => 1
  | .ptr d => uptoBulk d + 1
  | .slice elems spare => uptoBulkAll elems + uptoBulkAll spare + 1
  | .agg parts => uptoBulkAll parts + 1
  | .iface _ d => uptoBulk d + 1
  | .map entries => uptoBulkEntries entries + 1
  | .held _ => 1
def uptoBulkAll {H : Type} : List (DataW H) → Nat
  | [] => 0
  | d :: r => uptoBulk d + uptoBulkAll r
def uptoBulkEntries {H : Type} : List (Lit × DataW H) → Nat
  | [] => 0
  | x :: r => uptoBulkEntry x + uptoBulkEntries r
def uptoBulkEntry {H : Type} : Lit × DataW H → Nat
  | (.string bytes, d) => bytes.length + uptoBulk d + 1
  | (_, d) => uptoBulk d + 1
 end
def uptoSmall : (H : Type) → List (DataW H) → Bool := fun _ ds => decide (uptoBulkAll ds ≤ 1048576)
def OpenSpec.upto (s : _root_.Go.ChangeSpec) : _root_.Go.OpenSpec := { _root_.Go.OpenSpec.ofChange s with cond := some uptoSmall }

/-- 'intarsialaw13.HopStrips', WHERE WHAT IT READS IS OF BULK AT MOST 1048576: true; the input reads as it did. -/
def hopStripsUptoRow : OpenClaim := { program := "ytojoidhjlbcijaadoor", sum := "82c69eae6d07d5ba17e9059e2410fa9ab659f390de91aea539e3be61df7a9099", func := "intarsia/intarsialaw13.HopStrips", spec := "hopStrips", inPlace := ["internal/abi.NoEscape", "internal/bytealg.MakeNoZero", "internal/bytealg.IndexByteString", "internal/bytealg.IndexString", "slices.overlaps[intarsia/api.Field]"], unfollowed := true, recurses := true, named := ["unicode/utf8.first", "unicode/utf8.acceptRanges", "internal/bytealg.MaxLen"], apart := false, laid := [("unicode/utf8.acceptRanges", laid_unicode_utf8_acceptRanges), ("unicode/utf8.first", laid_unicode_utf8_first)], narrowed := true }
def HopStripsUptoSaid : Prop := hopStripsUptoRow.holds Tryd.pinned (OpenSpec.upto hopStripsSpec)

/-- 'intarsialaw13.HopStays', WHERE WHAT IT READS IS OF BULK AT MOST 1048576: true; the input reads as it did. -/
def hopStaysUptoRow : OpenClaim := { program := "ytojoidhjlbcijaadoor", sum := "82c69eae6d07d5ba17e9059e2410fa9ab659f390de91aea539e3be61df7a9099", func := "intarsia/intarsialaw13.HopStays", spec := "hopStays", inPlace := ["internal/abi.NoEscape", "internal/bytealg.MakeNoZero", "internal/bytealg.IndexByteString", "internal/bytealg.IndexString"], unfollowed := true, recurses := true, named := ["unicode/utf8.first", "unicode/utf8.acceptRanges", "internal/bytealg.MaxLen"], apart := false, laid := [("unicode/utf8.acceptRanges", laid_unicode_utf8_acceptRanges), ("unicode/utf8.first", laid_unicode_utf8_first)], narrowed := true }
def HopStaysUptoSaid : Prop := hopStaysUptoRow.holds Tryd.pinned (OpenSpec.upto hopStaysSpec)

/-- 'intarsialaw13.HopCan', WHERE WHAT IT READS IS OF BULK AT MOST 1048576: true; the input reads as it did. -/
def hopCanUptoRow : OpenClaim := { program := "ytojoidhjlbcijaadoor", sum := "82c69eae6d07d5ba17e9059e2410fa9ab659f390de91aea539e3be61df7a9099", func := "intarsia/intarsialaw13.HopCan", spec := "hopCan", inPlace := ["internal/abi.NoEscape", "internal/bytealg.MakeNoZero", "internal/bytealg.IndexByteString", "internal/bytealg.IndexString", "slices.overlaps[intarsia/api.Field]"], unfollowed := true, recurses := true, named := ["unicode/utf8.first", "unicode/utf8.acceptRanges", "internal/bytealg.MaxLen"], apart := false, laid := [("unicode/utf8.acceptRanges", laid_unicode_utf8_acceptRanges), ("unicode/utf8.first", laid_unicode_utf8_first)], narrowed := true }
def HopCanUptoSaid : Prop := hopCanUptoRow.holds Tryd.pinned (OpenSpec.upto hopCanSpec)

/-- 'intarsialaw13.HopKeeps', WHERE WHAT IT READS IS OF BULK AT MOST 1048576: true; the input reads as it did. -/
def hopKeepsUptoRow : OpenClaim := { program := "ytojoidhjlbcijaadoor", sum := "82c69eae6d07d5ba17e9059e2410fa9ab659f390de91aea539e3be61df7a9099", func := "intarsia/intarsialaw13.HopKeeps", spec := "hopKeeps", inPlace := ["internal/abi.NoEscape", "internal/bytealg.MakeNoZero", "internal/bytealg.IndexByteString", "internal/bytealg.IndexString"], unfollowed := true, recurses := true, named := ["unicode/utf8.first", "unicode/utf8.acceptRanges", "internal/bytealg.MaxLen"], apart := false, laid := [("unicode/utf8.acceptRanges", laid_unicode_utf8_acceptRanges), ("unicode/utf8.first", laid_unicode_utf8_first)], narrowed := true }
def HopKeepsUptoSaid : Prop := hopKeepsUptoRow.holds Tryd.pinned (OpenSpec.upto hopKeepsSpec)

/-- 'intarsialaw13.HopTwice', WHERE WHAT IT READS IS OF BULK AT MOST 1048576: true; the input reads as it did. -/
def hopTwiceUptoRow : OpenClaim := { program := "ytojoidhjlbcijaadoor", sum := "82c69eae6d07d5ba17e9059e2410fa9ab659f390de91aea539e3be61df7a9099", func := "intarsia/intarsialaw13.HopTwice", spec := "hopTwice", inPlace := ["internal/abi.NoEscape", "internal/bytealg.MakeNoZero", "internal/bytealg.IndexByteString", "internal/bytealg.IndexString", "slices.overlaps[intarsia/api.Field]"], unfollowed := true, recurses := true, named := ["unicode/utf8.first", "unicode/utf8.acceptRanges", "internal/bytealg.MaxLen"], apart := false, laid := [("unicode/utf8.acceptRanges", laid_unicode_utf8_acceptRanges), ("unicode/utf8.first", laid_unicode_utf8_first)], narrowed := true }
def HopTwiceUptoSaid : Prop := hopTwiceUptoRow.holds Tryd.pinned (OpenSpec.upto hopTwiceSpec)

end Rows
end Go.Proofs.YtojoidhjlbcijaaDoor
