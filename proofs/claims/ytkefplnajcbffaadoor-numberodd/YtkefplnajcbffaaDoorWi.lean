/- The walk of NumberOdd. -/
import Derived.Test.YtkefplnajcbffaaDoorWh
namespace Go.Proofs.YtkefplnajcbffaaDoor
set_option linter.unusedVariables false
set_option linter.unusedSimpArgs false
open Go.RowKit Go.Sort

/-- s with the byte c at place k. -/
def withAt (s : ByteArray) (k : Nat) (c : UInt8) : ByteArray := s.extract 0 k ++ ⟨#[c]⟩ ++ s.extract k s.size

theorem ext_take (s : ByteArray) (k : Nat) : (s.extract 0 k).data.toList = s.data.toList.take k := by
  rw [ByteArray.data_extract, Array.toList_extract, List.extract_eq_take_drop]; simp

theorem withAt_list (s : ByteArray) (k : Nat) (c : UInt8) : (withAt s k c).data.toList = s.data.toList.take k ++ [c] ++ s.data.toList.drop k := by
  unfold withAt
  rw [app_list, app_list, ext_take, ext_drop]

theorem withAt_size (s : ByteArray) (k : Nat) (c : UInt8) : (withAt s k c).size = s.size + 1 := by
  have h := congrArg List.length (withAt_list s k c)
  simp only [List.length_append, List.length_take, List.length_drop, List.length_singleton] at h
  have h1 : (withAt s k c).data.toList.length = (withAt s k c).size := by simp
  have h2 : s.data.toList.length = s.size := by simp
  rw [h1, h2] at h
  omega

theorem odd_dec (n k : Nat) (hn : n < 18446744073709551616) (c : UInt8) (h : ¬ (48 ≤ c.toNat ∧ c.toNat ≤ 57)) (w : World) :
    Calls Tryd.prog 7 #[.string (withAt (decS n) k c)] w fun e w' => e = .returned (.tuple #[.int .u64 0, .int .i64 10]) ∧ Below w.heap.size w w' := by
  have hr := readDec_any (withAt (decS n) k c) w (maxLen_of (by have := decS_le n hn; rw [withAt_size]; omega))
  have ho := odd_read 10 ((decS n).data.toList.take k) ((decS n).data.toList.drop k) c (by rw [vl_dec]; exact h)
  rw [withAt_list, ho.1, ho.2] at hr
  exact hr

theorem odd_sig (n k : Nat) (hn : n < 18446744073709551616) (c : UInt8) (h : ¬ (48 ≤ c.toNat ∧ c.toNat ≤ 57)) (h45 : c ≠ 45) (w : World) :
    Calls Tryd.prog 10 #[.string (withAt (decS n) k c)] w fun e w' => e = .returned (.tuple #[.int .i64 0, .int .i64 10]) ∧ Below w.heap.size w w' := by
  have hr := signed_any (withAt (decS n) k c) w (maxLen_of (by have := decS_le n hn; rw [withAt_size]; omega))
  have ho := odd_signed ((decS n).data.toList.take k) ((decS n).data.toList.drop k) c h h45 (by rw [decS_list]; exact okay_take (dgs_okay _ (by omega) _) k)
  rw [withAt_list, ho.1, ho.2] at hr
  exact hr

theorem one_byte (w : World) (c : UInt8) : Sem.run Tryd.prog (convert 34 9 (.slice (some ⟨w.heap.size, 0, none⟩) 1 1)) (w.alloc (.cells #[.int .u8 (c.toNat : Int)] 5)).drew = .ok (.string ⟨#[c]⟩) (w.alloc (.cells #[.int .u8 (c.toNat : Int)] 5)).drew :=
  run_convert_bytes_back (P := Tryd.prog) _ 34 9 5 ⟨w.heap.size, 0, none⟩ 1 [c] Tryd.underlying34 Tryd.underlying5 Tryd.underlying9 (fun j hj => by
    obtain rfl : j = 0 := by simpa using hj
    simp [Lib.add_plain])

set_option maxHeartbeats 1000000 in
theorem odd_walk (n : Nat) (hn : n < 18446744073709551616) (x : Int) (c : UInt8) (w : World) (ht : Tabs w) :
    Calls Tryd.prog 5 #[.int .u64 (n : Int), .int .i64 x, .int .u8 (c.toNat : Int)] w fun e w' => e = .returned (.bool true) ∧ Below w.heap.size w w' := by
  have hds := decS_le n hn
  have hc := c.toNat_lt
  go_enter Tryd.func5, Tryd.ntmps5
  go_wp2_with fail
  refine (dec_any n hn _ ht).mono ?_
  rintro e w1 ⟨rfl, hb1⟩
  have ht1 := ht.below hb1
  have hm : ∃ k : Nat, min (max x 0) ((decS n).size : Int) = (k : Int) ∧ k ≤ (decS n).size := ⟨(min (max x 0) ((decS n).size : Int)).toNat, by omega, by omega⟩
  obtain ⟨k, hmk, hk⟩ := hm
  by_cases hd : 48 ≤ c.toNat ∧ c.toNat ≤ 57
  · obtain ⟨hd1, hd2⟩ := hd
    go_wp2_with fail
    refine (alive_any _ ht1).mono ?_
    rintro e w2 ⟨rfl, hb2⟩
    go_wp2_with fail
    go_ret
    exact ⟨rfl, hb1.trans (hb2.mono hb1.size)⟩
  · by_cases h45 : c = 45
    · subst h45
      go_wp2_with fail
      refine (alive_any _ ht1).mono ?_
      rintro e w2 ⟨rfl, hb2⟩
      go_wp2_with fail
      go_ret
      exact ⟨rfl, hb1.trans (hb2.mono hb1.size)⟩
    · have h45i : ¬ (c.toNat : Int) = 45 := u8_ne_int h45
      have h45b : ((c.toNat : Int) == 45) = false := by simpa using h45i
      have HD := Lib.hid hd
      have HN := Lib.hid h45
      clear h45
      by_cases hlo : 48 ≤ c.toNat
      · have hhi : 57 < c.toNat := by omega
        clear hd
        go_wp2_with fail
        have hcv := one_byte w1 c
        go_region
        rw [show (decS n).extract 0 k ++ ⟨#[c]⟩ ++ (decS n).extract k (decS n).size = withAt (decS n) k c from rfl]
        have hb2 : Below w1.heap.size w1 (w1.alloc (.cells #[.int .u8 (c.toNat : Int)] 5)).drew := ((Below.refl _ _).alloc (Nat.le_refl _) _).drew
        clear hcv
        generalize (w1.alloc (.cells #[.int .u8 (c.toNat : Int)] 5)).drew = w2 at hb2 ⊢
        have ht2 := ht1.below hb2
        have c2 := hb1.trans (hb2.mono hb1.size)
        go_wp2_with fail
        refine (odd_dec n k hn c HD.out _).mono ?_
        rintro e w3 ⟨rfl, hb3⟩
        have ht3 := ht2.below hb3
        have c3 := c2.trans (hb3.mono c2.size)
        go_wp2_with fail
        refine (odd_sig n k hn c HD.out HN.out _).mono ?_
        rintro e w4 ⟨rfl, hb4⟩
        have ht4 := ht3.below hb4
        have c4 := c3.trans (hb4.mono c3.size)
        go_wp2_with fail
        refine (alive_any _ ht4).mono ?_
        rintro e w5 ⟨rfl, hb5⟩
        go_wp2_with fail
        go_ret
        exact ⟨rfl, c4.trans (hb5.mono c4.size)⟩
      · clear hd
        go_wp2_with fail
        have hcv := one_byte w1 c
        go_region
        rw [show (decS n).extract 0 k ++ ⟨#[c]⟩ ++ (decS n).extract k (decS n).size = withAt (decS n) k c from rfl]
        have hb2 : Below w1.heap.size w1 (w1.alloc (.cells #[.int .u8 (c.toNat : Int)] 5)).drew := ((Below.refl _ _).alloc (Nat.le_refl _) _).drew
        clear hcv
        generalize (w1.alloc (.cells #[.int .u8 (c.toNat : Int)] 5)).drew = w2 at hb2 ⊢
        have ht2 := ht1.below hb2
        have c2 := hb1.trans (hb2.mono hb1.size)
        go_wp2_with fail
        refine (odd_dec n k hn c HD.out _).mono ?_
        rintro e w3 ⟨rfl, hb3⟩
        have ht3 := ht2.below hb3
        have c3 := c2.trans (hb3.mono c2.size)
        go_wp2_with fail
        refine (odd_sig n k hn c HD.out HN.out _).mono ?_
        rintro e w4 ⟨rfl, hb4⟩
        have ht4 := ht3.below hb4
        have c4 := c3.trans (hb4.mono c3.size)
        go_wp2_with fail
        refine (alive_any _ ht4).mono ?_
        rintro e w5 ⟨rfl, hb5⟩
        go_wp2_with fail
        go_ret
        exact ⟨rfl, c4.trans (hb5.mono c4.size)⟩

end Go.Proofs.YtkefplnajcbffaaDoor
