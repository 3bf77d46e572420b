/- The walks of what cuts a text at a byte, and of a path's steps. -/
import Derived.Test.YtmpijlaidnhpnaaGreatJMc
import Derived.Lib.AppendStr
namespace Go.Proofs.YtmpijlaidnhpnaaGreat.Sr
set_option linter.unusedVariables false
set_option linter.unusedSimpArgs false
set_option maxRecDepth 100000
open Go.RowKit

/-- What stands ahead of the first c, and behind it. -/
def befS (c : UInt8) (s : ByteArray) : ByteArray := ⟨(s.data.toList.takeWhile (neB c)).toArray⟩
def aftS (c : UInt8) (s : ByteArray) : ByteArray := ⟨((s.data.toList.dropWhile (neB c)).drop 1).toArray⟩
def hasB (c : UInt8) (s : ByteArray) : Bool := decide (atN c s.data.toList < s.data.toList.length)
theorem befS_list (c : UInt8) (s : ByteArray) : (befS c s).data.toList = s.data.toList.takeWhile (neB c) := by simp [befS]
theorem aftS_list (c : UInt8) (s : ByteArray) : (aftS c s).data.toList = (s.data.toList.dropWhile (neB c)).drop 1 := by simp [aftS]
theorem befS_size (c : UInt8) (s : ByteArray) : (befS c s).size ≤ s.size := by rw [← size_list, befS_list, ← size_list s]; exact takeWhile_le _ _
theorem aftS_size (c : UInt8) (s : ByteArray) : (aftS c s).size ≤ s.size := by
  rw [← size_list, aftS_list, ← size_list s, List.length_drop]
  have := dropWhile_le (neB c) s.data.toList
  omega
theorem take_tw (p : UInt8 → Bool) (l : List UInt8) : l.take (l.takeWhile p).length = l.takeWhile p := by
  exact (List.prefix_iff_eq_take.1 (List.takeWhile_prefix p)).symm
theorem bef_ext (c : UInt8) (s : ByteArray) : s.extract 0 (atN c s.data.toList) = befS c s := by
  apply bytes_ext
  rw [ext_take, befS_list, atN, take_tw]
theorem aft_ext (c : UInt8) (s : ByteArray) : s.extract (atN c s.data.toList + 1) s.size = aftS c s := by
  apply bytes_ext
  rw [ext_drop, aftS_list, atN, ← drop_takeWhile, List.drop_drop]
theorem bef_none {c : UInt8} {s : ByteArray} (h : ¬ atN c s.data.toList < s.data.toList.length) : befS c s = s := by
  apply bytes_ext
  rw [befS_list, ← take_tw, List.take_of_length_le (by unfold atN at h; omega)]
theorem aft_none {c : UInt8} {s : ByteArray} (h : ¬ atN c s.data.toList < s.data.toList.length) : aftS c s = ⟨#[]⟩ := by
  apply bytes_ext
  rw [aftS_list, ← drop_takeWhile, List.drop_drop, List.drop_of_length_le (by unfold atN at h; omega)]

theorem ret_cut {a b c d : ByteArray} {x y : Bool} (h : a = c) (g : b = d) (k : x = y) : Ending.returned (.tuple #[.string a, .string b, .bool x]) = .returned (.tuple #[.string c, .string d, .bool y]) := by rw [h, g, k]

set_option maxRecDepth 100000 in
set_option maxHeartbeats 1000000 in
theorem cutLite_any (s : ByteArray) (c : UInt8) (w : World) (hs : s.size ≤ 1000000) :
    Calls Tryz.prog 99 #[.string s, .string ⟨#[c]⟩] w fun e w' => e = .returned (.tuple #[.string (befS c s), .string (aftS c s), .bool (hasB c s)]) ∧ ∃ n, w' = w.drewN n := by
  have hle := atN_le c s.data.toList
  rw [size_list] at hle
  have hi := Tryz.stringslite_Index_one s c w
  rw [indexByte_ix] at hi
  by_cases h : atN c s.data.toList < s.data.toList.length
  · have HB := hide (bef_ext c s)
    have HA := hide (aft_ext c s)
    have HH : Hid (hasB c s = true) := by unfold Hid hasB; simpa using h
    rw [ixI, if_pos h] at hi
    rw [size_list] at h
    generalize atN c s.data.toList = k at h hle hi HB HA
    go_enter Tryz.func99, Tryz.ntmps99
    go_wp2_with fail
    refine hi.mono ?_
    rintro e w1 ⟨rfl, rfl⟩
    go_wp2_with fail
    go_quiet (fail)
    go_wp2_with fail
    go_ret3
    exact ⟨by rw [← HB.out, ← HA.out, HH.out]; rfl, nq, rfl⟩
  · have HB := hide (bef_none h)
    have HA := hide (aft_none h)
    have HH : Hid (hasB c s = false) := by unfold Hid hasB; simpa using h
    rw [ixI, if_neg h] at hi
    go_enter Tryz.func99, Tryz.ntmps99
    go_wp2_with fail
    refine hi.mono ?_
    rintro e w1 ⟨rfl, rfl⟩
    go_wp2_with fail
    go_ret3
    exact ⟨by rw [HB.out, HA.out, HH.out]; rfl, 0, by simp [World.drewN]⟩

set_option maxRecDepth 100000 in
set_option maxHeartbeats 1000000 in
theorem cut_any (s : ByteArray) (c : UInt8) (w : World) (hs : s.size ≤ 1000000) :
    Calls Tryz.prog 78 #[.string s, .string ⟨#[c]⟩] w fun e w' => e = .returned (.tuple #[.string (befS c s), .string (aftS c s), .bool (hasB c s)]) ∧ ∃ n, w' = w.drewN n := by
  go_enter Tryz.func78, Tryz.ntmps78
  go_wp2_with fail
  refine (cutLite_any s c w hs).mono ?_
  rintro e w1 ⟨rfl, n, rfl⟩
  go_wp2_with fail
  go_ret3
  exact ⟨rfl, n, rfl⟩

theorem segN_ix (l : List UInt8) : (segN l : Int) = if atN 47 (l.drop 1) < (l.drop 1).length then 1 + (atN 47 (l.drop 1) : Int) else 1 + ((l.drop 1).length : Int) := by
  have := atN_le 47 (l.drop 1)
  rw [segN, notS_ne47, ← show atN 47 (l.drop 1) = ((l.drop 1).takeWhile (neB 47)).length from rfl]
  split <;> omega

/-- Bytes that the call owns. -/
def Own (b : Nat) (w : World) (v : Value) (l : List UInt8) : Prop := w.ownsRow b 5 1 v l.length (u8s l)

theorem Own.nil (b : Nat) (w : World) : Own b w (.slice none 0 0) [] := World.ownsRow_nil _ _ _ _

theorem Own.cells {b : Nat} {w : World} {g cap n : Nat} {l : List UInt8} (h : Own b w (.slice (some ⟨g, 0, none⟩) n cap) l) : n = l.length ∧ l.length ≤ cap ∧ ∀ j (hj : j < l.length), w.cell? ⟨g, j, none⟩ = some (.int .u8 (l[j].toNat : Int)) := by
  rcases h.2 with ⟨h1, _⟩ | ⟨g', cap', cur, h1, h2, h3, h4, h5, h6, h7⟩
  · cases h1
  · cases h1
    refine ⟨rfl, h4, fun j hj => ?_⟩
    rw [cell_of_row w g j cur 5 (0, 0) h3]
    have : (u8s l)[j]? = some (.int .u8 (l[j].toNat : Int)) := by simp [u8s, hj]
    rw [← h7, List.getElem?_take, if_pos (by omega)] at this
    simpa using this

/-- Fewer of them. -/
theorem Own.fewer {b : Nat} {w : World} {g cap n : Nat} {l : List UInt8} (h : Own b w (.slice (some ⟨g, 0, none⟩) n cap) l) (k : Nat) (hk : k ≤ l.length) : Own b w (.slice (some ⟨g, 0, none⟩) k cap) (l.take k) := by
  have hlen : (l.take k).length = k := by rw [List.length_take]; omega
  rcases h.2 with ⟨h1, _⟩ | ⟨g', cap', cur, h1, h2, h3, h4, h5, h6, h7⟩
  · cases h1
  · cases h1
    refine ⟨by rw [u8s_length, Nat.mul_one], Or.inr ⟨g, cap, cur, by rw [hlen], h2, h3, by omega, h5, h6, ?_⟩⟩
    rw [hlen]
    have : (cur.toList.take (l.length * 1)).take (k * 1) = (u8s l).take (k * 1) := by rw [h7]
    rw [List.take_take, Nat.min_eq_left (by omega)] at this
    rw [this]
    simp [u8s, List.map_take]

theorem backL_len (l : List UInt8) : (backL l).length = (max (laI 47 l) 0).toNat ∧ (max (laI 47 l) 0).toNat ≤ l.length ∧ backL l = l.take (max (laI 47 l) 0).toNat := by
  have h1 := lastN_le notS l
  have e : laI 47 l = (lastN notS l : Int) - 1 := rfl
  have e2 : (max (laI 47 l) 0).toNat = lastN notS l - 1 := by rw [e]; omega
  rw [e2]
  refine ⟨?_, by omega, rfl⟩
  unfold backL
  rw [List.length_take]
  omega

end Go.Proofs.YtmpijlaidnhpnaaGreat.Sr
