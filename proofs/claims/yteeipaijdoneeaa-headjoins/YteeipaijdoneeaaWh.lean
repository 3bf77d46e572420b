/- The walks of small letters and quotes. -/
import Derived.Test.YteeipaijdoneeaaWg
namespace Go.Proofs.Yteeipaijdoneeaa
set_option linter.unusedVariables false
set_option linter.unusedSimpArgs false
open Go.RowKit

theorem ret_pair {a c : ByteArray} {b d : Int} (h : a = c) (g : b = d) : Ending.returned (.tuple #[.string a, .int .i64 b]) = .returned (.tuple #[.string c, .int .i64 d]) := by rw [h, g]

def sameB (a b : ByteArray) : Bool := (lowS a).toList == (lowS b).toList

def qE (s : ByteArray) : Nat := if ctlB s then 11 else 0
def qS (s : ByteArray) : ByteArray := if ctlB s then ⟨#[]⟩ else ⟨(quoteL s.data.toList).toArray⟩
theorem quote_put (s : ByteArray) : (⟨#[34]⟩ : ByteArray) ++ ⟨(s.data.toList.flatMap esc1).toArray⟩ ++ ⟨#[34]⟩ = ⟨(quoteL s.data.toList).toArray⟩ := by
  apply bytes_ext
  rw [app_list, app_list]
  simp [quoteL, escL]

def quoB (s : ByteArray) : Bool := quotedL s.data.toList

theorem quo_empty {s : ByteArray} (h : s.data.toList = []) : quoB s = false := by unfold quoB quotedL; rw [h]; rfl
theorem quo_head {s : ByteArray} (h : 0 < s.size) (g : s[0] ≠ 34) : quoB s = false := by
  unfold quoB quotedL
  have : s.data.toList.head? = some s[0] := by rw [List.head?_eq_getElem?, List.getElem?_eq_getElem (by rw [size_list]; exact h), get_at s 0 h]
  rw [this]
  simp [g]
theorem quo_of {s : ByteArray} (h : 0 < s.size) (g : s[0] = 34) : quoB s = (decide (clS s 1 + 1 = s.size) && !ctlB s) := by
  unfold quoB quotedL
  have : s.data.toList.head? = some s[0] := by rw [List.head?_eq_getElem?, List.getElem?_eq_getElem (by rw [size_list]; exact h), get_at s 0 h]
  rw [this, g, size_list, show decide (some (34 : UInt8) = some 34) = true by simp, Bool.true_and]
  rfl

end Go.Proofs.Yteeipaijdoneeaa
