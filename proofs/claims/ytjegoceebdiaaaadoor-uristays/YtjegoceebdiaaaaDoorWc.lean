/- The walks of trimming, of tokens and of what finds control bytes. -/
import Derived.Test.YtjegoceebdiaaaaDoorWb
namespace Go.Proofs.YtjegoceebdiaaaaDoor
set_option linter.unusedVariables false
set_option linter.unusedSimpArgs false
open Go.RowKit

theorem app_list (a b : ByteArray) : (a ++ b).data.toList = a.data.toList ++ b.data.toList := by simp
theorem bytes_ext {a b : ByteArray} (h : a.data.toList = b.data.toList) : a = b := by
  cases a; cases b; simp at h; rw [h]
theorem ext_take (s : ByteArray) (k : Nat) : (s.extract 0 k).data.toList = s.data.toList.take k := by
  rw [ByteArray.data_extract, Array.toList_extract, List.extract_eq_take_drop]; simp
theorem ext_drop (s : ByteArray) (k : Nat) : (s.extract k s.size).data.toList = s.data.toList.drop k := by
  rw [ByteArray.data_extract, Array.toList_extract, List.extract_eq_take_drop, List.take_of_length_le (by simp)]
theorem size_list (s : ByteArray) : s.data.toList.length = s.size := by simp
theorem empty_of {s : ByteArray} (h : s.data.toList = []) : s.toList.isEmpty = true := by rw [ByteArray.toList_eq, h]; rfl
theorem empty_not {s : ByteArray} (h : s.data.toList ≠ []) : s.toList.isEmpty = false := by rw [ByteArray.toList_eq]; simpa using h

def trimS (s : ByteArray) : ByteArray := ⟨(trimL s.data.toList).toArray⟩
theorem trimS_list (s : ByteArray) : (trimS s).data.toList = trimL s.data.toList := by simp [trimS]
theorem trimS_size (s : ByteArray) : (trimS s).size ≤ s.size := by
  rw [← size_list, ← size_list, trimS_list]; exact trimL_le _

/-- Where blanks at the head end, and where those at the end begin. -/
def tA (s : ByteArray) : Nat := (s.data.toList.takeWhile blankB).length
def tB (s : ByteArray) : Nat := lastN blankB (s.extract (tA s) s.size).data.toList
theorem tA_le (s : ByteArray) : tA s ≤ s.size := by rw [← size_list]; exact takeWhile_le _ _
theorem tB_le (s : ByteArray) : tB s ≤ s.size - tA s := by
  have h := lastN_le blankB (s.extract (tA s) s.size).data.toList
  rw [size_list, ByteArray.size_extract] at h
  unfold tB; omega
theorem trim_cut (s : ByteArray) : (s.extract (tA s) s.size).extract 0 (tB s) = trimS s := by
  apply bytes_ext
  rw [ext_take, trimS_list, tB, ext_drop, tA, trimL_eq]

theorem int_beq (a b : Nat) : ((a : Int) == (b : Int)) = decide (a = b) := by
  by_cases h : a = b
  · simp [h]
  · have : ¬ (a : Int) = (b : Int) := by omega
    simp [h, this]

def tokB (s : ByteArray) : Bool := tokL s.data.toList

theorem tok_at (l : List UInt8) (h : l ≠ []) : tokL l = decide ((l.takeWhile wordB).length = l.length) := by
  unfold tokL
  rw [show l.isEmpty = false by simpa using h]
  simp only [Bool.not_false, Bool.true_and]
  induction l with
  | nil => exact absurd rfl h
  | cons c l ih =>
    rw [List.all_cons, List.takeWhile_cons]
    cases hc : wordB c with
    | false => simp
    | true =>
      by_cases hl : l = []
      · subst hl; simp
      · rw [ih hl]; simp

def ctlB (s : ByteArray) : Bool := s.data.toList.any ctrlB

theorem any_at (l : List UInt8) : l.any ctrlB = decide ((l.takeWhile (fun c => !ctrlB c)).length < l.length) := by
  induction l with
  | nil => rfl
  | cons c l ih =>
    rw [List.any_cons, List.takeWhile_cons]
    cases hc : ctrlB c with
    | true => simp
    | false => rw [ih]; simp

end Go.Proofs.YtjegoceebdiaaaaDoor
