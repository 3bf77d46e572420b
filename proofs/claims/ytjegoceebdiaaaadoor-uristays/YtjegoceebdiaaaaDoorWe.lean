/- The walks of the document's own answers: the end of quotes, trimming, tokens, small letters. -/
import Derived.Test.YtjegoceebdiaaaaDoorWd
namespace Go.Proofs.YtjegoceebdiaaaaDoor
set_option linter.unusedVariables false
set_option linter.unusedSimpArgs false
open Go.RowKit

theorem ret_int {k : IntKind} {a b : Int} (h : a = b) : Ending.returned (.int k a) = .returned (.int k b) := by rw [h]
theorem ret_str {a b : ByteArray} (h : a = b) : Ending.returned (.string a) = .returned (.string b) := by rw [h]

/-- Behind the quotes that begin at a; -1: nowhere. -/
def enI (s : ByteArray) (a : Nat) : Int := if clS s (a + 1) < s.size then (clS s (a + 1) : Int) + 1 else -1

theorem drop_blank {x : ByteArray} (h : 0 < x.size) (hb : blankB x[0] = true) : (x.extract 1 x.size).data.toList.dropWhile blankB = x.data.toList.dropWhile blankB := by
  have h0 : 0 < x.data.toList.length := by simpa using h
  have e : x.data.toList = x[0] :: x.data.toList.drop 1 := by
    have := List.drop_eq_getElem_cons h0
    rw [get_at x 0 h] at this
    simpa using this
  rw [ext_drop]
  conv => rhs; rw [e, List.dropWhile_cons, if_pos hb]
theorem drop_done {x : ByteArray} (h : 0 < x.size → blankB (x.data.toList.headD 0) = false) : x.data.toList.dropWhile blankB = x.data.toList := by
  apply dropWhile_same
  intro c hc
  cases hl : x.data.toList with
  | nil => rw [hl] at hc; simp at hc
  | cons d l =>
    rw [hl] at hc h
    obtain rfl : d = c := by simpa using hc
    have : 0 < x.size := by rw [← size_list, hl]; simp
    simpa using h this
theorem last_blank {x : ByteArray} {m : Nat} (hm : x.size = m + 1) (hms : m < x.size) (hb : blankB (x[m]'hms) = true) : (x.extract 0 m).data.toList.reverse.dropWhile blankB = x.data.toList.reverse.dropWhile blankB := by
  have h0 : m < x.data.toList.length := by simpa using hms
  have e : x.data.toList = x.data.toList.take m ++ [x[m]'hms] := by
    have := take_snoc x.data.toList m h0
    rw [get_at x m hms, List.take_of_length_le (by rw [size_list]; omega)] at this
    exact this
  rw [ext_take]
  conv => rhs; rw [e, List.reverse_append]
  show _ = List.dropWhile blankB (x[m]'hms :: (x.data.toList.take m).reverse)
  rw [List.dropWhile_cons, if_pos hb]
theorem last_done {x : ByteArray} (h : ∀ c, x.data.toList.getLast? = some c → blankB c = false) : x.data.toList.reverse.dropWhile blankB = x.data.toList.reverse := by
  apply dropWhile_same
  intro c hc
  rw [List.head?_reverse] at hc
  exact h c hc
theorem head_at {x : ByteArray} (h : 0 < x.size) : x.data.toList.headD 0 = x[0] := by
  have h0 : 0 < x.data.toList.length := by simpa using h
  rw [← get_at x 0 h, List.headD_eq_head?_getD, List.head?_eq_getElem?, List.getElem?_eq_getElem h0]
  rfl
theorem trim_done {s x y : ByteArray} (h1 : x.data.toList.dropWhile blankB = s.data.toList.dropWhile blankB) (h2 : x.data.toList.dropWhile blankB = x.data.toList)
    (h3 : y.data.toList.reverse.dropWhile blankB = x.data.toList.reverse.dropWhile blankB) (h4 : y.data.toList.reverse.dropWhile blankB = y.data.toList.reverse) : y = trimS s := by
  apply bytes_ext
  rw [trimS_list, trimL, ← h1, h2, ← h3, h4, List.reverse_reverse]
theorem last_at {x : ByteArray} {m : Nat} (hm : x.size = m + 1) (hms : m < x.size) : x.data.toList.getLast? = some (x[m]'hms) := by
  rw [List.getLast?_eq_getElem?, size_list, show x.size - 1 = m by omega, List.getElem?_eq_getElem (by rw [size_list]; omega), get_at x m hms]

end Go.Proofs.YtjegoceebdiaaaaDoor
