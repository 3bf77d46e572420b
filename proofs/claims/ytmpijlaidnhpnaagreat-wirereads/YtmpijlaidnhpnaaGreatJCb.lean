/- The walks of what cuts a text at a byte, and of a path's steps. -/
import Derived.Test.YtmpijlaidnhpnaaGreatJMc
import Derived.Lib.AppendStr
namespace Go.Proofs.YtmpijlaidnhpnaaGreat.Sr
set_option linter.unusedVariables false
set_option linter.unusedSimpArgs false
set_option maxRecDepth 100000
open Go.RowKit

/-- What stands ahead of the first c, and behind it. -/
def befS (c : UInt8) (s : ByteArray) : ByteArray := ⟨(s.data.toList.takeWhile (neB c)).toArray⟩
def aftS (c : UInt8) (s : ByteArray) : ByteArray := ⟨((s.data.toList.dropWhile (neB c)).drop 1).toArray⟩
def hasB (c : UInt8) (s : ByteArray) : Bool := decide (atN c s.data.toList < s.data.toList.length)
theorem befS_list (c : UInt8) (s : ByteArray) : (befS c s).data.toList = s.data.toList.takeWhile (neB c) := by simp [befS]
theorem aftS_list (c : UInt8) (s : ByteArray) : (aftS c s).data.toList = (s.data.toList.dropWhile (neB c)).drop 1 := by simp [aftS]
theorem befS_size (c : UInt8) (s : ByteArray) : (befS c s).size ≤ s.size := by rw [← size_list, befS_list, ← size_list s]; exact takeWhile_le _ _
theorem aftS_size (c : UInt8) (s : ByteArray) : (aftS c s).size ≤ s.size := by
  rw [← size_list, aftS_list, ← size_list s, List.length_drop]
  have := dropWhile_le (neB c) s.data.toList
  omega
theorem take_tw (p : UInt8 → Bool) (l : List UInt8) : l.take (l.takeWhile p).length = l.takeWhile p := by
  exact (List.prefix_iff_eq_take.1 (List.takeWhile_prefix p)).symm
theorem bef_ext (c : UInt8) (s : ByteArray) : s.extract 0 (atN c s.data.toList) = befS c s := by
  apply bytes_ext
  rw [ext_take, befS_list, atN, take_tw]
theorem aft_ext (c : UInt8) (s : ByteArray) : s.extract (atN c s.data.toList + 1) s.size = aftS c s := by
  apply bytes_ext
  rw [ext_drop, aftS_list, atN, ← drop_takeWhile, List.drop_drop]
theorem bef_none {c : UInt8} {s : ByteArray} (h : ¬ atN c s.data.toList < s.data.toList.length) : befS c s = s := by
  apply bytes_ext
  rw [befS_list, ← take_tw, List.take_of_length_le (by unfold atN at h; omega)]
theorem aft_none {c : UInt8} {s : ByteArray} (h : ¬ atN c s.data.toList < s.data.toList.length) : aftS c s = ⟨#[]⟩ := by
  apply bytes_ext
  rw [aftS_list, ← drop_takeWhile, List.drop_drop, List.drop_of_length_le (by unfold atN at h; omega)]

set_option maxRecDepth 100000 in
set_option maxHeartbeats 1000000 in
theorem cutLite_any (s : ByteArray) (c : UInt8) (w : World) (hs : s.size ≤ 1000000) :
    Calls Tryz.prog 99 #[.string s, .string ⟨#[c]⟩] w fun e w' => e = .returned (.tuple #[.string (befS c s), .string (aftS c s), .bool (hasB c s)]) ∧ ∃ n, w' = w.drewN n := by
  have hle := atN_le c s.data.toList
  rw [size_list] at hle
  have hi := Tryz.stringslite_Index_one s c w
  rw [indexByte_ix] at hi
  by_cases h : atN c s.data.toList < s.data.toList.length
  · have HB := hide (bef_ext c s)
    have HA := hide (aft_ext c s)
    have HH : Hid (hasB c s = true) := by unfold Hid hasB; simpa using h
    rw [ixI, if_pos h] at hi
    rw [size_list] at h
    generalize atN c s.data.toList = k at h hle hi HB HA
    go_enter Tryz.func99, Tryz.ntmps99
    go_wp2_with fail
    refine hi.mono ?_
    rintro e w1 ⟨rfl, rfl⟩
    go_wp2_with fail
    go_quiet (fail)
    go_wp2_with fail
    go_ret3
    exact ⟨by rw [← HB.out, ← HA.out, HH.out]; rfl, nq, rfl⟩
  · have HB := hide (bef_none h)
    have HA := hide (aft_none h)
    have HH : Hid (hasB c s = false) := by unfold Hid hasB; simpa using h
    rw [ixI, if_neg h] at hi
    go_enter Tryz.func99, Tryz.ntmps99
    go_wp2_with fail
    refine hi.mono ?_
    rintro e w1 ⟨rfl, rfl⟩
    go_wp2_with fail
    go_ret3
    exact ⟨by rw [HB.out, HA.out, HH.out]; rfl, 0, by simp [World.drewN]⟩

set_option maxRecDepth 100000 in
set_option maxHeartbeats 1000000 in
theorem cut_any (s : ByteArray) (c : UInt8) (w : World) (hs : s.size ≤ 1000000) :
    Calls Tryz.prog 78 #[.string s, .string ⟨#[c]⟩] w fun e w' => e = .returned (.tuple #[.string (befS c s), .string (aftS c s), .bool (hasB c s)]) ∧ ∃ n, w' = w.drewN n := by
  go_enter Tryz.func78, Tryz.ntmps78
  go_wp2_with fail
  refine (cutLite_any s c w hs).mono ?_
  rintro e w1 ⟨rfl, n, rfl⟩
  go_wp2_with fail
  go_ret3
  exact ⟨rfl, n, rfl⟩

/-- Bytes that the call owns. -/
def Own (b : Nat) (w : World) (v : Value) (l : List UInt8) : Prop := w.ownsRow b 5 1 v l.length (u8s l)

theorem Own.nil (b : Nat) (w : World) : Own b w (.slice none 0 0) [] := World.ownsRow_nil _ _ _ _

theorem Own.cells {b : Nat} {w : World} {g cap n : Nat} {l : List UInt8} (h : Own b w (.slice (some ⟨g, 0, none⟩) n cap) l) : n = l.length ∧ l.length ≤ cap ∧ ∀ j (hj : j < l.length), w.cell? ⟨g, j, none⟩ = some (.int .u8 (l[j].toNat : Int)) := by
  rcases h.2 with ⟨h1, _⟩ | ⟨g', cap', cur, h1, h2, h3, h4, h5, h6, h7⟩
  · cases h1
  · cases h1
    refine ⟨rfl, h4, fun j hj => ?_⟩
    rw [cell_of_row w g j cur 5 (0, 0) h3]
    have : (u8s l)[j]? = some (.int .u8 (l[j].toNat : Int)) := by simp [u8s, hj]
    rw [← h7, List.getElem?_take, if_pos (by omega)] at this
    simpa using this

end Go.Proofs.YtmpijlaidnhpnaaGreat.Sr
