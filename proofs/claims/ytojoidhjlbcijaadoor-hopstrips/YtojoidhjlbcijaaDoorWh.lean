/- The walks of small letters and quotes. -/
import Derived.Test.YtojoidhjlbcijaaDoorWg
namespace Go.Proofs.YtojoidhjlbcijaaDoor
set_option linter.unusedVariables false
set_option linter.unusedSimpArgs false
set_option maxRecDepth 100000
open Go.RowKit

theorem ret_pair {a c : ByteArray} {b d : Int} (h : a = c) (g : b = d) : Ending.returned (.tuple #[.string a, .int .i64 b]) = .returned (.tuple #[.string c, .int .i64 d]) := by rw [h, g]

set_option maxHeartbeats 1000000 in
theorem lower_any (s : ByteArray) (w : World) (hs : s.size ≤ 1000000) :
    Calls Tryd.prog 42 #[.string s] w fun e w' => e = .returned (.string (lowS s)) ∧ Below w.heap.size w w' := by
  go_enter Tryd.func42, Tryd.ntmps42
  go_wp2_with fail
  refine (setOf_any _ w (by decide)).mono ?_
  rintro e w1 ⟨he1, hb1⟩
  have hE : e = .returned (.agg (Lib.setCells capsL)) := he1
  clear he1
  subst hE
  go_wp2_with fail
  refine (rewrite_low s _ hs).mono ?_
  rintro e w2 ⟨rfl, hb2⟩
  rw [flat_low]
  go_wp2_with fail
  go_ret
  exact ⟨rfl, hb1.trans (hb2.mono hb1.size)⟩

def sameB (a b : ByteArray) : Bool := (lowS a).toList == (lowS b).toList

set_option maxHeartbeats 1000000 in
theorem same_any (a b : ByteArray) (w : World) (ha : a.size ≤ 1000000) (hb : b.size ≤ 1000000) :
    Calls Tryd.prog 64 #[.string a, .string b] w fun e w' => e = .returned (.bool (sameB a b)) ∧ Below w.heap.size w w' := by
  go_enter Tryd.func64, Tryd.ntmps64
  go_wp2_with fail
  refine (lower_any a w ha).mono ?_
  rintro e w1 ⟨rfl, hb1⟩
  go_wp2_with fail
  refine (lower_any b _ hb).mono ?_
  rintro e w2 ⟨rfl, hb2⟩
  go_wp2_with fail
  go_ret
  exact ⟨rfl, hb1.trans (hb2.mono hb1.size)⟩

def qE (s : ByteArray) : Nat := if ctlB s then 11 else 0
def qS (s : ByteArray) : ByteArray := if ctlB s then ⟨#[]⟩ else ⟨(quoteL s.data.toList).toArray⟩
theorem quote_put (s : ByteArray) : (⟨#[34]⟩ : ByteArray) ++ ⟨(s.data.toList.flatMap esc1).toArray⟩ ++ ⟨#[34]⟩ = ⟨(quoteL s.data.toList).toArray⟩ := by
  apply bytes_ext
  rw [app_list, app_list]
  simp [quoteL, escL]

def quoB (s : ByteArray) : Bool := quotedL s.data.toList

theorem quo_empty {s : ByteArray} (h : s.data.toList = []) : quoB s = false := by unfold quoB quotedL; rw [h]; rfl
theorem quo_head {s : ByteArray} (h : 0 < s.size) (g : s[0] ≠ 34) : quoB s = false := by
  unfold quoB quotedL
  have : s.data.toList.head? = some s[0] := by rw [List.head?_eq_getElem?, List.getElem?_eq_getElem (by rw [size_list]; exact h), get_at s 0 h]
  rw [this]
  simp [g]
theorem quo_of {s : ByteArray} (h : 0 < s.size) (g : s[0] = 34) : quoB s = (decide (clS s 1 + 1 = s.size) && !ctlB s) := by
  unfold quoB quotedL
  have : s.data.toList.head? = some s[0] := by rw [List.head?_eq_getElem?, List.getElem?_eq_getElem (by rw [size_list]; exact h), get_at s 0 h]
  rw [this, g, size_list, show decide (some (34 : UInt8) = some 34) = true by simp, Bool.true_and]
  rfl

end Go.Proofs.YtojoidhjlbcijaaDoor
