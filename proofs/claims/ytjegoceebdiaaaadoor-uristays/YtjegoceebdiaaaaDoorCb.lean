/- The walks of what cuts a text at a byte, and of a path's steps. -/
import Derived.Test.YtjegoceebdiaaaaDoorCa
import Derived.Lib.AppendStr
namespace Go.Proofs.YtjegoceebdiaaaaDoor
set_option linter.unusedVariables false
set_option linter.unusedSimpArgs false
open Go.RowKit

/-- What stands ahead of the first c, and behind it. -/
def befS (c : UInt8) (s : ByteArray) : ByteArray := ⟨(s.data.toList.takeWhile (neB c)).toArray⟩
def aftS (c : UInt8) (s : ByteArray) : ByteArray := ⟨((s.data.toList.dropWhile (neB c)).drop 1).toArray⟩
def hasB (c : UInt8) (s : ByteArray) : Bool := decide (atN c s.data.toList < s.data.toList.length)
theorem befS_list (c : UInt8) (s : ByteArray) : (befS c s).data.toList = s.data.toList.takeWhile (neB c) := by simp [befS]
theorem aftS_list (c : UInt8) (s : ByteArray) : (aftS c s).data.toList = (s.data.toList.dropWhile (neB c)).drop 1 := by simp [aftS]
theorem befS_size (c : UInt8) (s : ByteArray) : (befS c s).size ≤ s.size := by rw [← size_list, befS_list, ← size_list s]; exact takeWhile_le _ _
theorem aftS_size (c : UInt8) (s : ByteArray) : (aftS c s).size ≤ s.size := by
  rw [← size_list, aftS_list, ← size_list s, List.length_drop]
  have := dropWhile_le (neB c) s.data.toList
  omega
theorem take_tw (p : UInt8 → Bool) (l : List UInt8) : l.take (l.takeWhile p).length = l.takeWhile p := by
  exact (List.prefix_iff_eq_take.1 (List.takeWhile_prefix p)).symm
theorem bef_ext (c : UInt8) (s : ByteArray) : s.extract 0 (atN c s.data.toList) = befS c s := by
  apply bytes_ext
  rw [ext_take, befS_list, atN, take_tw]
theorem aft_ext (c : UInt8) (s : ByteArray) : s.extract (atN c s.data.toList + 1) s.size = aftS c s := by
  apply bytes_ext
  rw [ext_drop, aftS_list, atN, ← drop_takeWhile, List.drop_drop]
theorem bef_none {c : UInt8} {s : ByteArray} (h : ¬ atN c s.data.toList < s.data.toList.length) : befS c s = s := by
  apply bytes_ext
  rw [befS_list, ← take_tw, List.take_of_length_le (by unfold atN at h; omega)]
theorem aft_none {c : UInt8} {s : ByteArray} (h : ¬ atN c s.data.toList < s.data.toList.length) : aftS c s = ⟨#[]⟩ := by
  apply bytes_ext
  rw [aftS_list, ← drop_takeWhile, List.drop_drop, List.drop_of_length_le (by unfold atN at h; omega)]

theorem ret_cut {a b c d : ByteArray} {x y : Bool} (h : a = c) (g : b = d) (k : x = y) : Ending.returned (.tuple #[.string a, .string b, .bool x]) = .returned (.tuple #[.string c, .string d, .bool y]) := by rw [h, g, k]

set_option maxRecDepth 100000 in
set_option maxHeartbeats 1000000 in
theorem cutLite_any (s : ByteArray) (c : UInt8) (w : World) (hs : s.size ≤ 1000000) :
    Calls Tryd.prog 54 #[.string s, .string ⟨#[c]⟩] w fun e w' => e = .returned (.tuple #[.string (befS c s), .string (aftS c s), .bool (hasB c s)]) ∧ ∃ n, w' = w.drewN n := by
  have hle := atN_le c s.data.toList
  rw [size_list] at hle
  have hi := Tryd.stringslite_Index_one s c w
  rw [indexByte_ix] at hi
  by_cases h : atN c s.data.toList < s.data.toList.length
  · have HB := hide (bef_ext c s)
    have HA := hide (aft_ext c s)
    have HH : Hid (hasB c s = true) := by unfold Hid hasB; simpa using h
    rw [ixI, if_pos h] at hi
    rw [size_list] at h
    generalize atN c s.data.toList = k at h hle hi HB HA
    go_enter Tryd.func54, Tryd.ntmps54
    go_wp2_with fail
    refine hi.mono ?_
    rintro e w1 ⟨rfl, rfl⟩
    go_wp2_with fail
    go_quiet (fail)
    go_wp2_with fail
    go_ret3
    exact ⟨by rw [← HB.out, ← HA.out, HH.out]; rfl, nq, rfl⟩
  · have HB := hide (bef_none h)
    have HA := hide (aft_none h)
    have HH : Hid (hasB c s = false) := by unfold Hid hasB; simpa using h
    rw [ixI, if_neg h] at hi
    go_enter Tryd.func54, Tryd.ntmps54
    go_wp2_with fail
    refine hi.mono ?_
    rintro e w1 ⟨rfl, rfl⟩
    go_wp2_with fail
    go_ret3
    exact ⟨by rw [HB.out, HA.out, HH.out]; rfl, 0, by simp [World.drewN]⟩

set_option maxRecDepth 100000 in
set_option maxHeartbeats 1000000 in
theorem cut_any (s : ByteArray) (c : UInt8) (w : World) (hs : s.size ≤ 1000000) :
    Calls Tryd.prog 25 #[.string s, .string ⟨#[c]⟩] w fun e w' => e = .returned (.tuple #[.string (befS c s), .string (aftS c s), .bool (hasB c s)]) ∧ ∃ n, w' = w.drewN n := by
  go_enter Tryd.func25, Tryd.ntmps25
  go_wp2_with fail
  refine (cutLite_any s c w hs).mono ?_
  rintro e w1 ⟨rfl, n, rfl⟩
  go_wp2_with fail
  go_ret3
  exact ⟨rfl, n, rfl⟩

theorem segN_ix (l : List UInt8) : (segN l : Int) = if atN 47 (l.drop 1) < (l.drop 1).length then 1 + (atN 47 (l.drop 1) : Int) else 1 + ((l.drop 1).length : Int) := by
  have := atN_le 47 (l.drop 1)
  rw [segN, notS_ne47, ← show atN 47 (l.drop 1) = ((l.drop 1).takeWhile (neB 47)).length from rfl]
  split <;> omega

set_option maxRecDepth 100000 in
set_option maxHeartbeats 1000000 in
theorem stepEnd_any (s : ByteArray) (w : World) (hs : s.size ≤ 1000000) (h0 : 1 ≤ s.size) :
    Calls Tryd.prog 40 #[.string s] w fun e w' => e = .returned (.int .i64 (segN s.data.toList : Int)) ∧ w' = w := by
  have HS := hide (segN_ix s.data.toList)
  have hi := Tryd.strings_IndexByte (s.extract 1 s.size) 47 w
  rw [show (47 : Int).toNat.toUInt8 = 47 from rfl, indexByte_ix, ext_drop, ixI] at hi
  have hle := atN_le 47 (s.data.toList.drop 1)
  have hl : (s.data.toList.drop 1).length = s.size - 1 := by rw [List.length_drop, size_list]
  rw [hl] at hi hle HS
  by_cases h : atN 47 (s.data.toList.drop 1) < s.size - 1
  · rw [if_pos h] at hi HS
    generalize atN 47 (s.data.toList.drop 1) = k at h hle hi HS
    clear hl
    go_enter Tryd.func40, Tryd.ntmps40
    go_wp2_with fail
    refine hi.mono ?_
    rintro e w1 ⟨rfl, rfl⟩
    go_wp2_with fail
    go_ret
    exact ⟨ret_int (by rw [HS.out]), rfl⟩
  · rw [if_neg h] at hi HS
    clear hl
    go_enter Tryd.func40, Tryd.ntmps40
    go_wp2_with fail
    refine hi.mono ?_
    rintro e w1 ⟨rfl, rfl⟩
    go_wp2_with fail
    go_ret
    exact ⟨ret_int (by rw [HS.out]; omega), rfl⟩

set_option maxRecDepth 100000 in
set_option maxHeartbeats 1000000 in
theorem lastB_nil (w : World) : Calls Tryd.prog 81 #[.slice none 0 0, .int .u8 47] w fun e w' => e = .returned (.int .i64 (-1)) ∧ w' = w := by
  go_enter Tryd.func81, Tryd.ntmps81
  go_wp2_with fail
  go_loop [5] (fun i => i = .int .i64 (-1)) (fun i => 0)
  case atStart => rfl
  case round =>
    obtain rfl := hrel
    go_wp2_with fail
    go_ret
    exact ⟨rfl, rfl⟩

set_option maxRecDepth 100000 in
set_option maxHeartbeats 1000000 in
theorem lastB_some (g cap : Nat) (l : List UInt8) (w : World) (hl : l.length ≤ 1000000) (hcap : l.length ≤ cap) (h : ∀ j (hj : j < l.length), w.cell? ⟨g, j, none⟩ = some (.int .u8 (l[j].toNat : Int))) :
    Calls Tryd.prog 81 #[.slice (some ⟨g, 0, none⟩) l.length cap, .int .u8 47] w fun e w' => e = .returned (.int .i64 (laI 47 l)) ∧ w' = w := by
  have HC := hide h
  clear h
  obtain ⟨n, hn⟩ : ∃ n, l.length = n := ⟨_, rfl⟩
  rw [hn] at hl hcap ⊢
  have HN := hide hn
  clear hn
  go_enter Tryd.func81, Tryd.ntmps81
  go_wp2_with fail
  go_loop [5] (fun i => ∃ k : Nat, k ≤ n ∧ i = .int .i64 ((k : Int) - 1) ∧ Hid (∀ x ∈ l.drop k, notS x = true)) (fun i => (intOf i + 1).toNat)
  case atStart => exact ⟨n, Nat.le_refl _, rfl, by unfold Hid; rw [List.drop_of_length_le (by rw [HN.out]; exact Nat.le_refl _)]; simp⟩
  case round =>
    obtain ⟨k, hk, rfl, hall⟩ := hrel
    cases k with
    | zero =>
      have HL : Hid (laI 47 l = -1) := by
        have := hall.out
        rw [List.drop_zero] at this
        unfold Hid laI
        rw [lastN_none (p := neB 47) this]; rfl
      go_wp2_with fail
      go_ret
      exact ⟨ret_int (by rw [HL.out]), rfl⟩
    | succ m =>
      have hm : m < l.length := by rw [HN.out]; omega
      have hcell := HC.out m hm
      rw [show ((m + 1 : Nat) : Int) - 1 = m by omega]
      by_cases hb : l[m] = 47
      · have HL : Hid (laI 47 l = m) := by
          unfold Hid laI
          rw [lastN_at (p := neB 47) hm hall.out (by rw [hb]; rfl)]; omega
        rw [hb] at hcell
        go_wp2_with fail
        go_ret
        exact ⟨ret_int (by rw [HL.out]), rfl⟩
      · have hbd : ((l[m].toNat : Int) == 47) = false := by
          rw [beq_eq_false_iff_ne]
          intro e
          have h47 : (47 : UInt8).toNat = 47 := rfl
          exact hb (UInt8.toNat_inj.1 (by omega))
        have HB := hide hb
        clear hb
        go_wp2_with fail
        refine ⟨⟨m, by omega, by go_num, ?_⟩, by simp [intOf]⟩
        unfold Hid
        intro x hx
        rw [List.drop_eq_getElem_cons hm] at hx
        rcases List.mem_cons.1 hx with hx | hx
        · subst hx; simpa [notS] using HB.out
        · exact hall.out x hx

/-- Bytes that the call owns. -/
def Own (b : Nat) (w : World) (v : Value) (l : List UInt8) : Prop := w.ownsRow b 5 1 v l.length (u8s l)

theorem Own.nil (b : Nat) (w : World) : Own b w (.slice none 0 0) [] := World.ownsRow_nil _ _ _ _

theorem Own.cells {b : Nat} {w : World} {g cap n : Nat} {l : List UInt8} (h : Own b w (.slice (some ⟨g, 0, none⟩) n cap) l) : n = l.length ∧ l.length ≤ cap ∧ ∀ j (hj : j < l.length), w.cell? ⟨g, j, none⟩ = some (.int .u8 (l[j].toNat : Int)) := by
  rcases h.2 with ⟨h1, _⟩ | ⟨g', cap', cur, h1, h2, h3, h4, h5, h6, h7⟩
  · cases h1
  · cases h1
    refine ⟨rfl, h4, fun j hj => ?_⟩
    rw [cell_of_row w g j cur 5 (0, 0) h3]
    have : (u8s l)[j]? = some (.int .u8 (l[j].toNat : Int)) := by simp [u8s, hj]
    rw [← h7, List.getElem?_take, if_pos (by omega)] at this
    simpa using this

/-- Fewer of them. -/
theorem Own.fewer {b : Nat} {w : World} {g cap n : Nat} {l : List UInt8} (h : Own b w (.slice (some ⟨g, 0, none⟩) n cap) l) (k : Nat) (hk : k ≤ l.length) : Own b w (.slice (some ⟨g, 0, none⟩) k cap) (l.take k) := by
  have hlen : (l.take k).length = k := by rw [List.length_take]; omega
  rcases h.2 with ⟨h1, _⟩ | ⟨g', cap', cur, h1, h2, h3, h4, h5, h6, h7⟩
  · cases h1
  · cases h1
    refine ⟨by rw [u8s_length, Nat.mul_one], Or.inr ⟨g, cap, cur, by rw [hlen], h2, h3, by omega, h5, h6, ?_⟩⟩
    rw [hlen]
    have : (cur.toList.take (l.length * 1)).take (k * 1) = (u8s l).take (k * 1) := by rw [h7]
    rw [List.take_take, Nat.min_eq_left (by omega)] at this
    rw [this]
    simp [u8s, List.map_take]

theorem backL_len (l : List UInt8) : (backL l).length = (max (laI 47 l) 0).toNat ∧ (max (laI 47 l) 0).toNat ≤ l.length ∧ backL l = l.take (max (laI 47 l) 0).toNat := by
  have h1 := lastN_le notS l
  have e : laI 47 l = (lastN notS l : Int) - 1 := rfl
  have e2 : (max (laI 47 l) 0).toNat = lastN notS l - 1 := by rw [e]; omega
  rw [e2]
  refine ⟨?_, by omega, rfl⟩
  unfold backL
  rw [List.length_take]
  omega

set_option maxRecDepth 100000 in
set_option maxHeartbeats 1000000 in
theorem lastIB_any (b : Nat) (v : Value) (l : List UInt8) (w : World) (hl : l.length ≤ 1000000) (h : Own b w v l) :
    Calls Tryd.prog 63 #[v, .int .u8 47] w fun e w' => e = .returned (.int .i64 (laI 47 l)) ∧ w' = w := by
  rcases h.2 with ⟨rfl, h0⟩ | ⟨g, cap, cur, rfl, _⟩
  · obtain rfl : l = [] := List.length_eq_zero_iff.1 h0
    go_enter Tryd.func63, Tryd.ntmps63
    go_wp2_with fail
    refine (lastB_nil w).mono ?_
    rintro e w1 ⟨rfl, rfl⟩
    go_wp2_with fail
    go_ret
    exact ⟨ret_int (by rw [laI_nil]), rfl⟩
  · obtain ⟨-, hc, hcell⟩ := h.cells
    have HC := hide hcell
    have hcap := hide hc
    clear hcell hc h
    go_enter Tryd.func63, Tryd.ntmps63
    go_wp2_with fail
    refine (lastB_some g cap l w hl hcap.out HC.out).mono ?_
    rintro e w1 ⟨rfl, rfl⟩
    go_wp2_with fail
    go_ret
    exact ⟨rfl, rfl⟩

set_option maxRecDepth 100000 in
set_option maxHeartbeats 1000000 in
theorem stepBack_any (b : Nat) (v : Value) (l : List UInt8) (w : World) (hl : l.length ≤ 1000000) (h : Own b w v l) :
    Calls Tryd.prog 39 #[v] w fun e w' => (∃ v', e = .returned v' ∧ Own b w v' (backL l)) ∧ w' = w := by
  obtain ⟨hb1, hb2, hb3⟩ := backL_len l
  have HO := hide h
  rcases h.2 with ⟨rfl, h0⟩ | ⟨g, cap, cur, rfl, _, _, hcap, _⟩
  · obtain rfl : l = [] := List.length_eq_zero_iff.1 h0
    go_enter Tryd.func39, Tryd.ntmps39
    go_wp2_with fail
    refine (lastIB_any b _ [] w (by simp) HO.out).mono ?_
    rintro e w1 ⟨rfl, rfl⟩
    rw [laI_nil]
    go_wp2_with fail
    go_ret
    exact ⟨⟨_, rfl, Own.nil _ _⟩, rfl⟩
  · have hX := hide (HO.out.fewer _ hb2)
    rw [← hb3] at hX
    clear hb1 hb3 h
    have hlt := laI_lt 47 l
    have hge := laI_ge 47 l
    by_cases hneg : laI 47 l = -1
    · rw [hneg] at hX
      have HNEG := hide hneg
      clear hneg hlt hge hb2
      go_enter Tryd.func39, Tryd.ntmps39
      go_wp2_with fail
      refine (lastIB_any b _ l w hl HO.out).mono ?_
      rintro e w1 ⟨rfl, rfl⟩
      rw [HNEG.out]
      go_wp2_with fail
      go_ret
      exact ⟨⟨_, rfl, hX.out⟩, rfl⟩
    · obtain ⟨k, hk⟩ : ∃ k : Nat, laI 47 l = k := ⟨(laI 47 l).toNat, by omega⟩
      rw [hk] at hX hb2 hlt
      have hkl : k ≤ l.length := by omega
      have HK := hide hk
      have hmx : max (k : Int) 0 = k := by omega
      rw [hmx, Int.toNat_natCast] at hX
      clear hneg hlt hge hb2 hk
      go_enter Tryd.func39, Tryd.ntmps39
      go_wp2_with fail
      refine (lastIB_any b _ l w hl HO.out).mono ?_
      rintro e w1 ⟨rfl, rfl⟩
      rw [HK.out]
      go_wp2_with fail
      go_ret
      exact ⟨⟨_, rfl, hX.out⟩, rfl⟩

end Go.Proofs.YtjegoceebdiaaaaDoor
