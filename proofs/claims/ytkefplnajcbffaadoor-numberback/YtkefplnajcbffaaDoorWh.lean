/- The walk of NumberBack. -/
import Derived.Test.YtkefplnajcbffaaDoorWf
namespace Go.Proofs.YtkefplnajcbffaaDoor
set_option linter.unusedVariables false
set_option linter.unusedSimpArgs false
open Go.RowKit Go.Sort

/-- So many zeros. -/
def zs (k : Nat) : ByteArray := ⟨(List.replicate k 48).toArray⟩
theorem zs_list (k : Nat) : (zs k).data.toList = List.replicate k 48 := by simp [zs]
theorem zs_size (k : Nat) : (zs k).size = k := by
  have : (zs k).data.toList.length = (zs k).size := by simp
  rw [zs_list, List.length_replicate] at this
  exact this.symm
theorem app_list (a b : ByteArray) : (a ++ b).data.toList = a.data.toList ++ b.data.toList := by simp
theorem bytes_ext {a b : ByteArray} (h : a.data.toList = b.data.toList) : a = b := by
  cases a; cases b; simp at h; rw [h]
theorem zs_succ (k : Nat) : zs k ++ ⟨#[48]⟩ = zs (k + 1) := by
  apply bytes_ext
  rw [app_list, zs_list, zs_list, List.replicate_succ']

/-- What reading answers of the digits of n behind zeros. -/
def lngE (n : Nat) : Nat := if 1099511627776 < n then 2 else 0
def lngN (n : Nat) : Nat := if 1099511627776 < n then 0 else n

theorem back_dec (z n : Nat) (hz : z ≤ 20) (hn : n < 18446744073709551616) (w : World) :
    Calls Tryd.prog 7 #[.string (zs z ++ decS n)] w fun e w' => e = .returned (.tuple #[.int .u64 (lngN n : Nat), .int .i64 (lngE n : Nat)]) ∧ Below w.heap.size w w' := by
  have h := readDec_any (zs z ++ decS n) w (maxLen_of (by have := decS_le n hn; rw [ByteArray.size_append, zs_size]; omega))
  rw [app_list, zs_list, decS_list, (back 10 (by omega) (by omega) z n).1, (back 10 (by omega) (by omega) z n).2] at h
  exact h

theorem back_hex (z n : Nat) (hz : z ≤ 20) (hn : n < 18446744073709551616) (w : World) :
    Calls Tryd.prog 9 #[.string (zs z ++ hexS n)] w fun e w' => e = .returned (.tuple #[.int .u64 (lngN n : Nat), .int .i64 (lngE n : Nat)]) ∧ Below w.heap.size w w' := by
  have h := readHex_any (zs z ++ hexS n) w (maxLen_of (by have := hexS_le n hn; rw [ByteArray.size_append, zs_size]; omega))
  rw [app_list, zs_list, hexS_list, (back 16 (by omega) (by omega) z n).1, (back 16 (by omega) (by omega) z n).2] at h
  exact h

theorem back_signed (z n : Nat) (hz : z ≤ 20) (hn : n < 18446744073709551616) (w : World) :
    Calls Tryd.prog 10 #[.string (⟨#[45]⟩ ++ zs z ++ decS n)] w fun e w' => e = .returned (.tuple #[.int .i64 (-(lngN n : Nat) : Int), .int .i64 (lngE n : Nat)]) ∧ Below w.heap.size w w' := by
  have h := signed_any (⟨#[45]⟩ ++ zs z ++ decS n) w (maxLen_of (by have := decS_le n hn; rw [ByteArray.size_append, ByteArray.size_append, zs_size, show (⟨#[45]⟩ : ByteArray).size = 1 from rfl]; omega))
  have hl : (⟨#[45]⟩ ++ zs z ++ decS n : ByteArray).data.toList = 45 :: (List.replicate z 48 ++ dgs 10 (by omega) n) := by
    rw [app_list, app_list, zs_list, decS_list]; rfl
  have hN : sgN (⟨#[45]⟩ ++ zs z ++ decS n : ByteArray).data.toList = -(lngN n : Int) := by
    rw [hl, sgN, if_pos (List.head?_cons ..), List.drop_one, List.tail_cons, (back 10 (by omega) (by omega) z n).2]; rfl
  have hE : sgE (⟨#[45]⟩ ++ zs z ++ decS n : ByteArray).data.toList = lngE n := by
    rw [hl, sgE, if_pos (List.head?_cons ..), List.drop_one, List.tail_cons, (back 10 (by omega) (by omega) z n).1]; rfl
  rw [hN, hE] at h
  exact h

set_option maxHeartbeats 1000000 in
theorem back_walk (n : Nat) (hn : n < 18446744073709551616) (z : Int) (w : World) (ht : Tabs w) :
    Calls Tryd.prog 4 #[.int .u64 (n : Int), .int .i64 z] w fun e w' => e = .returned (.bool true) ∧ Below w.heap.size w w' := by
  have hds := decS_le n hn
  have hhs := hexS_le n hn
  go_enter Tryd.func4, Tryd.ntmps4
  go_wp2_with fail
  go_loop [5, 15] (fun o i => ∃ k : Nat, k ≤ 20 ∧ i = .int .i64 k ∧ o = .string (zs k)) (fun _ i => 20 - (intOf i).toNat)
  case atStart => exact ⟨0, by omega, rfl, rfl⟩
  case round =>
    obtain ⟨k, hk, rfl, rfl⟩ := hrel
    have hzk := zs_size k
    by_cases hlt : (k : Int) < min (max z 0) 20
    · go_wp2_with fail
      exact ⟨⟨k + 1, by omega, by go_num, by rw [zs_succ]⟩, by simp [intOf]; omega⟩
    · have HZ := Lib.hid hzk
      have hzs : (zs k).size ≤ 20 := by omega
      clear hzk
      go_wp2_with fail
      refine (dec_any n hn _ ht).mono ?_
      rintro e w1 ⟨rfl, hb1⟩
      have ht1 := ht.below hb1
      go_wp2_with fail
      refine (back_dec k n hk hn _).mono ?_
      rintro e w2 ⟨rfl, hb2⟩
      have ht2 := ht1.below hb2
      go_wp2_with fail
      refine (hex_any n hn _ ht2).mono ?_
      rintro e w3 ⟨rfl, hb3⟩
      have ht3 := ht2.below hb3
      go_wp2_with fail
      refine (back_hex k n hk hn _).mono ?_
      rintro e w4 ⟨rfl, hb4⟩
      have ht4 := ht3.below hb4
      go_wp2_with fail
      refine (dec_any n hn _ ht4).mono ?_
      rintro e w5 ⟨rfl, hb5⟩
      have ht5 := ht4.below hb5
      go_wp2_with fail
      refine (back_signed k n hk hn _).mono ?_
      rintro e w6 ⟨rfl, hb6⟩
      have ht6 := ht5.below hb6
      have c2 := hb1.trans (hb2.mono hb1.size)
      have c3 := c2.trans (hb3.mono c2.size)
      have c4 := c3.trans (hb4.mono c3.size)
      have c5 := c4.trans (hb5.mono c4.size)
      have c6 := c5.trans (hb6.mono c5.size)
      clear hb1 hb2 hb3 hb4 hb5 hb6 c2 c3 c4 c5 ht1 ht2 ht3 ht4 ht5
      by_cases hg : 1099511627776 < n
      · have hE : lngE n = 2 := if_pos hg
        have hN : lngN n = 0 := if_pos hg
        go_wp2_with fail
        refine (alive_any _ ht6).mono ?_
        rintro e w7 ⟨rfl, hb7⟩
        go_wp2_with fail
        go_ret
        exact ⟨rfl, c6.trans (hb7.mono c6.size)⟩
      · have hE : lngE n = 0 := if_neg hg
        have hN : lngN n = n := if_neg hg
        go_wp2_with fail
        refine (alive_any _ ht6).mono ?_
        rintro e w7 ⟨rfl, hb7⟩
        go_wp2_with fail
        go_ret
        exact ⟨rfl, c6.trans (hb7.mono c6.size)⟩

end Go.Proofs.YtkefplnajcbffaaDoor
