/- The walk of NumberCases. -/
import Derived.Test.YtkefplnajcbffaaDoorWh
namespace Go.Proofs.YtkefplnajcbffaaDoor
set_option linter.unusedVariables false
set_option linter.unusedSimpArgs false
open Go.RowKit Go.Sort

theorem one_byte_of (w : World) (c : UInt8) (v : Int) (h : v = (c.toNat : Int)) : Sem.run Tryd.prog (convert 34 9 (.slice (some ⟨w.heap.size, 0, none⟩) 1 1)) (w.alloc (.cells #[.int .u8 v] 5)) = .ok (.string ⟨#[c]⟩) (w.alloc (.cells #[.int .u8 v] 5)) := by
  subst h
  exact run_convert_bytes_back (P := Tryd.prog) _ 34 9 5 ⟨w.heap.size, 0, none⟩ 1 [c] Tryd.underlying34 Tryd.underlying5 Tryd.underlying9 (fun j hj => by
    obtain rfl : j = 0 := by simpa using hj
    simp [Lib.add_plain])

/-- The first k bytes of s, in great letters. -/
def grt (s : ByteArray) (k : Nat) : ByteArray := ⟨((s.data.toList.take k).map up).toArray⟩
theorem grt_list (s : ByteArray) (k : Nat) : (grt s k).data.toList = (s.data.toList.take k).map up := by simp [grt]
theorem grt_zero (s : ByteArray) : grt s 0 = ⟨#[]⟩ := rfl
theorem grt_succ (s : ByteArray) (k : Nat) (h : k < s.size) : grt s k ++ ⟨#[up s[k]]⟩ = grt s (k + 1) := by
  apply bytes_ext
  rw [app_list, grt_list, grt_list, take_snoc _ k (by simpa using h), List.map_append, get_at s k h]
  rfl
theorem grt_size (s : ByteArray) (k : Nat) (h : k ≤ s.size) : (grt s k).size = k := by
  have h1 : (grt s k).data.toList.length = (grt s k).size := by simp
  have h2 : s.data.toList.length = s.size := by simp
  rw [grt_list, List.length_map, List.length_take, h2] at h1
  omega
theorem up_low (c : UInt8) (h1 : 97 ≤ c.toNat) (h2 : c.toNat ≤ 102) : (c.toNat : Int) - 32 = ((up c).toNat : Int) := by
  unfold up; rw [if_pos ⟨h1, h2⟩]
  have : (c - 32).toNat = c.toNat - 32 := by
    rw [UInt8.toNat_sub_of_le]
    · rfl
    · rw [UInt8.le_iff_toNat_le]; simp; omega
  rw [this]; omega
theorem up_not (c : UInt8) (h : ¬ (97 ≤ c.toNat ∧ c.toNat ≤ 102)) : (c.toNat : Int) = ((up c).toNat : Int) := by
  unfold up; rw [if_neg h]

set_option maxHeartbeats 1000000 in
theorem cases_walk (n0 : Nat) (hn0 : n0 < 18446744073709551616) (m0 : Nat) (hm0 : m0 < 18446744073709551616) (w : World) (ht : Tabs w) :
    Calls Tryd.prog 6 #[.int .u64 (n0 : Int), .int .u64 (m0 : Int)] w fun e w' => e = .returned (.bool true) ∧ Below w.heap.size w w' := by
  obtain ⟨n, m, hmin, hmax, hn, hm, hle⟩ : ∃ n m : Nat, min (n0 : Int) (m0 : Int) = (n : Int) ∧ max (n0 : Int) (m0 : Int) = (m : Int) ∧ n < 18446744073709551616 ∧ m < 18446744073709551616 ∧ n ≤ m :=
    ⟨min n0 m0, max n0 m0, by omega, by omega, by omega, by omega, by omega⟩
  have hhs := hexS_le n hn
  go_enter Tryd.func6, Tryd.ntmps6
  go_wp2_with fail
  refine (hex_any n hn _ ht).mono ?_
  rintro e w1 ⟨rfl, hb1⟩
  have ht1 := ht.below hb1
  go_wp2_with fail
  go_loopw [6, 23] (fun o i wr => ∃ k : Nat, k ≤ (hexS n).size ∧ i = .int .i64 k ∧ o = .string (grt (hexS n) k) ∧ Below w1.heap.size w1 wr) (fun _ i _ => (hexS n).size - (intOf i).toNat)
  case atStart => exact ⟨0, Nat.zero_le _, rfl, rfl, Below.refl _ _⟩
  case round =>
    obtain ⟨k, hk, rfl, rfl, hbr⟩ := hrel
    have hgs := grt_size _ k hk
    by_cases hlt : k < (hexS n).size
    · have hc := (hexS n)[k].toNat_lt
      have HB := Lib.hid hbr
      have HG : Hid (grt (hexS n) k ++ ⟨#[up (hexS n)[k]]⟩ = grt (hexS n) (k + 1)) := grt_succ _ k hlt
      clear hbr
      by_cases hl : 97 ≤ (hexS n)[k].toNat ∧ (hexS n)[k].toNat ≤ 102
      · have hcv := one_byte_of wr (up (hexS n)[k]) _ (up_low _ hl.1 hl.2)
        obtain ⟨hl1, hl2⟩ := hl
        go_wp2_with fail
        exact ⟨⟨k + 1, by omega, by go_num, by rw [HG.out], HB.out.alloc HB.out.size _⟩, by simp [intOf]; omega⟩
      · have hcv := one_byte_of wr (up (hexS n)[k]) _ (up_not _ hl)
        have HL := Lib.hid hl
        clear hl
        by_cases hl1 : 97 ≤ (hexS n)[k].toNat
        · have hl2 : 102 < (hexS n)[k].toNat := by have := HL.out; omega
          go_wp2_with fail
          exact ⟨⟨k + 1, by omega, by go_num, by rw [HG.out], HB.out.alloc HB.out.size _⟩, by simp [intOf]; omega⟩
        · go_wp2_with fail
          exact ⟨⟨k + 1, by omega, by go_num, by rw [HG.out], HB.out.alloc HB.out.size _⟩, by simp [intOf]; omega⟩
    · have HK : Hid (grt (hexS n) k = grt (hexS n) (hexS n).size) := by unfold Hid; rw [show k = (hexS n).size by omega]
      have hmax : (hexS n).size ≤ maxLen := maxLen_of (by omega)
      have hup : (grt (hexS n) k).data.toList = (hexS n).data.toList.map up := by
        rw [HK.out, grt_list, List.take_of_length_le (by simp)]
      have hg : (grt (hexS n) k).size ≤ maxLen := by rw [hgs]; exact maxLen_of (by omega)
      have hr2 : ∀ W, Calls Tryd.prog 9 #[.string (grt (hexS n) k)] W fun e W' => e = .returned (.tuple #[.int .u64 (rdN 16 (hexS n).data.toList : Nat), .int .i64 (rdE 16 (hexS n).data.toList : Nat)]) ∧ Below W.heap.size W W' := by
        intro W
        have h := readHex_any (grt (hexS n) k) W hg
        rw [hup, (rd_up 16 _).1, (rd_up 16 _).2] at h
        exact h
      have HR := Lib.hid hr2
      have htr := ht1.below hbr
      have c1 := hb1.trans (hbr.mono hb1.size)
      have d1 : (decS n).size ≤ (decS m).size := by rw [decS_size, decS_size]; exact dgs_length_le _ n m hle
      have d2 : (hexS n).size ≤ (hexS m).size := by rw [hexS_size, hexS_size]; exact dgs_length_le _ n m hle
      have d3 : (hexS n).size ≤ (decS n).size := by rw [hexS_size, decS_size]; exact dgs_base_le n n (Nat.le_refl _)
      have d4 := decS_le m hm
      have d5 := hexS_le m hm
      clear hr2 hup hg hgs HK hb1 ht1 hbr ht
      go_wp2_with fail
      refine (readHex_any (hexS n) _ hmax).mono ?_
      rintro e w2 ⟨rfl, hb2⟩
      have ht2 := htr.below hb2
      have c2 := c1.trans (hb2.mono c1.size)
      go_wp2_with fail
      refine (HR.out _).mono ?_
      rintro e w3 ⟨rfl, hb3⟩
      have ht3 := ht2.below hb3
      have c3 := c2.trans (hb3.mono c2.size)
      go_wp2_with fail
      refine (alive_any _ ht3).mono ?_
      rintro e w4 ⟨rfl, hb4⟩
      have ht4 := ht3.below hb4
      have c4 := c3.trans (hb4.mono c3.size)
      go_wp2_with fail
      refine (dec_any n hn _ ht4).mono ?_
      rintro e w5 ⟨rfl, hb5⟩
      have ht5 := ht4.below hb5
      have c5 := c4.trans (hb5.mono c4.size)
      go_wp2_with fail
      refine (dec_any m hm _ ht5).mono ?_
      rintro e w6 ⟨rfl, hb6⟩
      have ht6 := ht5.below hb6
      have c6 := c5.trans (hb6.mono c5.size)
      go_wp2_with fail
      refine (hex_any m hm _ ht6).mono ?_
      rintro e w7 ⟨rfl, hb7⟩
      have ht7 := ht6.below hb7
      have c7 := c6.trans (hb7.mono c6.size)
      go_wp2_with fail
      refine (dec_any n hn _ ht7).mono ?_
      rintro e w8 ⟨rfl, hb8⟩
      go_wp2_with fail
      go_ret
      exact ⟨rfl, c7.trans (hb8.mono c7.size)⟩

end Go.Proofs.YtkefplnajcbffaaDoor
