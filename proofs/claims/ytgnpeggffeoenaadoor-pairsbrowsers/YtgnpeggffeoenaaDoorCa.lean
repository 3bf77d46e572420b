/- Where a byte stands first, and a text cut at a byte, by the library. -/
import Derived.Test.YtgnpeggffeoenaaDoorMb
import Derived.Test.YtgnpeggffeoenaaDoorWg
import Derived.Test.YtgnpeggffeoenaaDoorShelf
import Derived.Lib.AppendStr
namespace Go.Proofs.YtgnpeggffeoenaaDoor
set_option linter.unusedVariables false
set_option linter.unusedSimpArgs false
open Go.RowKit

/-- Where c stands first; -1: nowhere. -/
def ixI (c : UInt8) (l : List UInt8) : Int := if atN c l < l.length then (atN c l : Int) else -1
theorem indexByte_ix (c : UInt8) : ∀ l : List UInt8, Lib.indexByte l c = ixI c l
  | [] => by simp [Lib.indexByte, ixI, atN]
  | b :: l => by
    have ih := indexByte_ix c l
    rw [Lib.indexByte, ih]
    unfold ixI atN
    rw [List.takeWhile_cons]
    by_cases h : b = c
    · subst h; simp [neB]
    · have h1 : (b == c) = false := by simpa using h
      have h2 : neB c b = true := by simpa [neB] using h
      rw [h1, h2]
      simp only [Bool.false_eq_true, if_false, if_true, List.length_cons]
      by_cases g : (l.takeWhile (neB c)).length < l.length
      · have e : (((l.takeWhile (neB c)).length : Int) == -1) = false := by rw [beq_eq_false_iff_ne]; omega
        have g' : (l.takeWhile (neB c)).length + 1 < l.length + 1 := by omega
        simp only [g, g', e, if_true, Bool.false_eq_true, if_false]
        omega
      · have g' : ¬ (l.takeWhile (neB c)).length + 1 < l.length + 1 := by omega
        simp [g, g']
theorem ix_at {s : ByteArray} {c : UInt8} {k : Nat} (hk : k < s.size) (h : ∀ x ∈ s.data.toList.take k, neB c x = true) (g : s[k] = c) : ixI c s.data.toList = k := by
  have hl : k < s.data.toList.length := by rw [size_list]; exact hk
  have : atN c s.data.toList = k := takeWhile_at hl h (by rw [get_at s k hk, g]; simp [neB])
  unfold ixI
  rw [this, if_pos hl]
theorem ix_none {c : UInt8} {l : List UInt8} (h : ∀ x ∈ l, neB c x = true) : ixI c l = -1 := by
  unfold ixI
  rw [atN, takeWhile_all h, if_neg (by omega)]

/-- What stands ahead of the first c, and behind it. -/
def befS (c : UInt8) (s : ByteArray) : ByteArray := ⟨(s.data.toList.takeWhile (neB c)).toArray⟩
def aftS (c : UInt8) (s : ByteArray) : ByteArray := ⟨((s.data.toList.dropWhile (neB c)).drop 1).toArray⟩
def hasB (c : UInt8) (s : ByteArray) : Bool := decide (atN c s.data.toList < s.data.toList.length)
theorem befS_list (c : UInt8) (s : ByteArray) : (befS c s).data.toList = s.data.toList.takeWhile (neB c) := by simp [befS]
theorem aftS_list (c : UInt8) (s : ByteArray) : (aftS c s).data.toList = (s.data.toList.dropWhile (neB c)).drop 1 := by simp [aftS]
theorem befS_size (c : UInt8) (s : ByteArray) : (befS c s).size ≤ s.size := by rw [← size_list, befS_list, ← size_list s]; exact takeWhile_le _ _
theorem aftS_size (c : UInt8) (s : ByteArray) : (aftS c s).size ≤ s.size := by
  rw [← size_list, aftS_list, ← size_list s, List.length_drop]
  have := dropWhile_le (neB c) s.data.toList
  omega
theorem bef_ext (c : UInt8) (s : ByteArray) : s.extract 0 (atN c s.data.toList) = befS c s := by
  apply bytes_ext
  rw [ext_take, befS_list, take_atN]
theorem aft_ext (c : UInt8) (s : ByteArray) : s.extract (atN c s.data.toList + 1) s.size = aftS c s := by
  apply bytes_ext
  rw [ext_drop, aftS_list, atN, ← drop_takeWhile, List.drop_drop]
theorem bef_none {c : UInt8} {s : ByteArray} (h : ¬ atN c s.data.toList < s.data.toList.length) : befS c s = s := by
  apply bytes_ext
  rw [befS_list, ← take_atN, List.take_of_length_le (by omega)]
theorem aft_none {c : UInt8} {s : ByteArray} (h : ¬ atN c s.data.toList < s.data.toList.length) : aftS c s = ⟨#[]⟩ := by
  apply bytes_ext
  rw [aftS_list, ← drop_takeWhile, List.drop_drop, List.drop_of_length_le (by unfold atN at h; omega)]

set_option maxRecDepth 100000 in
set_option maxHeartbeats 1000000 in
theorem cutLite_any (s : ByteArray) (c : UInt8) (w : World) (hs : s.size ≤ 1000000) :
    Calls Tryd.prog 48 #[.string s, .string ⟨#[c]⟩] w fun e w' => e = .returned (.tuple #[.string (befS c s), .string (aftS c s), .bool (hasB c s)]) ∧ ∃ n, w' = w.drewN n := by
  have hle := atN_le c s.data.toList
  rw [size_list] at hle
  have hi := Tryd.stringslite_Index_one s c w
  rw [indexByte_ix] at hi
  by_cases h : atN c s.data.toList < s.data.toList.length
  · have HB := hide (bef_ext c s)
    have HA := hide (aft_ext c s)
    have HH : Hid (hasB c s = true) := by unfold Hid hasB; simpa using h
    rw [ixI, if_pos h] at hi
    rw [size_list] at h
    generalize atN c s.data.toList = k at h hle hi HB HA
    go_enter Tryd.func48, Tryd.ntmps48
    go_wp2_with fail
    refine hi.mono ?_
    rintro e w1 ⟨rfl, rfl⟩
    go_wp2_with fail
    go_quiet (fail)
    go_wp2_with fail
    go_ret3
    exact ⟨by rw [← HB.out, ← HA.out, HH.out]; rfl, nq, rfl⟩
  · have HB := hide (bef_none h)
    have HA := hide (aft_none h)
    have HH : Hid (hasB c s = false) := by unfold Hid hasB; simpa using h
    rw [ixI, if_neg h] at hi
    go_enter Tryd.func48, Tryd.ntmps48
    go_wp2_with fail
    refine hi.mono ?_
    rintro e w1 ⟨rfl, rfl⟩
    go_wp2_with fail
    go_ret3
    exact ⟨by rw [HB.out, HA.out, HH.out]; rfl, 0, by simp [World.drewN]⟩

set_option maxRecDepth 100000 in
set_option maxHeartbeats 1000000 in
theorem cut_any (s : ByteArray) (c : UInt8) (w : World) (hs : s.size ≤ 1000000) :
    Calls Tryd.prog 27 #[.string s, .string ⟨#[c]⟩] w fun e w' => e = .returned (.tuple #[.string (befS c s), .string (aftS c s), .bool (hasB c s)]) ∧ ∃ n, w' = w.drewN n := by
  go_enter Tryd.func27, Tryd.ntmps27
  go_wp2_with fail
  refine (cutLite_any s c w hs).mono ?_
  rintro e w1 ⟨rfl, n, rfl⟩
  go_wp2_with fail
  go_ret3
  exact ⟨rfl, n, rfl⟩

/-- A text of a list of bytes. -/
def bs (l : List UInt8) : ByteArray := ⟨l.toArray⟩
theorem bs_list (l : List UInt8) : (bs l).data.toList = l := by simp [bs]
theorem bs_size (l : List UInt8) : (bs l).size = l.length := by rw [← size_list, bs_list]
theorem bs_of {s : ByteArray} {l : List UInt8} (h : s.data.toList = l) : s = bs l := by
  apply bytes_ext; rw [bs_list]; exact h

end Go.Proofs.YtgnpeggffeoenaaDoor
