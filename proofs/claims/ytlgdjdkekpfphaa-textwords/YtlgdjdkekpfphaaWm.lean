/- The walks of TextWords, TextSplits and TextQuotes. -/
import Derived.Test.YtlgdjdkekpfphaaWl
namespace Go.Proofs.Ytlgdjdkekpfphaa
set_option linter.unusedVariables false
set_option linter.unusedSimpArgs false
open Go.RowKit

theorem same_low (s : ByteArray) : sameB s (lowS s) = true := by
  unfold sameB
  rw [show lowS (lowS s) = lowS s from bytes_ext (by rw [lowS_list, lowS_list, lowL_twice])]
  simp

set_option maxHeartbeats 2000000 in
theorem words_walk (s0 t0 : ByteArray) (w : World) (hs0 : s0.size ≤ maxLen) (ht0 : t0.size ≤ maxLen) :
    Calls Try.prog 3 #[.string s0, .string t0] w fun e w' => e = .returned (.bool true) ∧ Below w.heap.size w w' := by
  go_enter Try.func3, Try.ntmps3
  go_wp2_with fail
  refine (short_any s0 w hs0).mono ?_
  rintro e w0 ⟨s, rfl, hs, rfl⟩
  go_wp2_with fail
  refine (short_any t0 _ ht0).mono ?_
  rintro e w0 ⟨t, rfl, ht, rfl⟩
  have hl := lowS_size s
  have hsm : ((lowS s).toList == (lowS t).toList) = sameB s t := rfl
  have hsl := same_low s
  go_wp2_with fail
  refine (alive_any _).mono ?_
  rintro e w1 ⟨rfl, hb1⟩
  have c1 := hb1
  clear hb1
  go_wp2_with fail
  refine (lower_any s _ (by omega)).mono ?_
  rintro e w2 ⟨rfl, hb2⟩
  have c2 := c1.trans (hb2.mono c1.size)
  clear hb2 c1
  go_wp2_with fail
  refine (reflower_any s _ (by omega)).mono ?_
  rintro e w3 ⟨rfl, hb3⟩
  have c3 := c2.trans (hb3.mono c2.size)
  clear hb3 c2
  go_wp2_with fail
  refine (trim_any s _ (by omega)).mono ?_
  rintro e w4 ⟨rfl, hb4⟩
  have c4 := c3.trans (hb4.mono c3.size)
  clear hb4 c3
  go_wp2_with fail
  refine (reftrim_any s _ (by omega)).mono ?_
  rintro e w5 ⟨rfl, rfl⟩
  go_wp2_with fail
  refine (token_any s _ (by omega)).mono ?_
  rintro e w6 ⟨rfl, hb6⟩
  have c6 := c4.trans (hb6.mono c4.size)
  clear hb6 c4
  go_wp2_with fail
  refine (reftoken_any s _ (by omega)).mono ?_
  rintro e w7 ⟨rfl, rfl⟩
  go_wp2_with fail
  refine (same_any s t _ (by omega) (by omega)).mono ?_
  rintro e w8 ⟨rfl, hb8⟩
  have c8 := c6.trans (hb8.mono c6.size)
  clear hb8 c6
  go_wp2_with fail
  refine (reflower_any s _ (by omega)).mono ?_
  rintro e w9 ⟨rfl, hb9⟩
  have c9 := c8.trans (hb9.mono c8.size)
  clear hb9 c8
  go_wp2_with fail
  refine (reflower_any t _ (by omega)).mono ?_
  rintro e w10 ⟨rfl, hb10⟩
  have c10 := c9.trans (hb10.mono c9.size)
  clear hb10 c9
  go_wp2_with fail
  refine (reflower_any s _ (by omega)).mono ?_
  rintro e w11 ⟨rfl, hb11⟩
  have c11 := c10.trans (hb11.mono c10.size)
  clear hb11 c10
  go_wp2_with fail
  refine (same_any s (lowS s) _ (by omega) (by omega)).mono ?_
  rintro e w12 ⟨rfl, hb12⟩
  have c12 := c11.trans (hb12.mono c11.size)
  clear hb12 c11
  go_wp2_with fail
  go_ret
  exact ⟨rfl, c12⟩

set_option maxHeartbeats 2000000 in
theorem quotes_walk (s0 : ByteArray) (w : World) (hs0 : s0.size ≤ maxLen) :
    Calls Try.prog 5 #[.string s0] w fun e w' => e = .returned (.bool true) ∧ Below w.heap.size w w' := by
  go_enter Try.func5, Try.ntmps5
  go_wp2_with fail
  refine (short_any s0 w hs0).mono ?_
  rintro e w0 ⟨s, rfl, hs, rfl⟩
  go_wp2_with fail
  refine (quote_any s _ (by omega)).mono ?_
  rintro e w1 ⟨rfl, hb1⟩
  have c1 := hb1
  clear hb1
  go_wp2_with fail
  refine (refquote_any s _ (by omega)).mono ?_
  rintro e w2 ⟨rfl, rfl⟩
  go_wp2_with fail
  refine (unquote_any s _ (by omega)).mono ?_
  rintro e w3 ⟨rfl, hb3⟩
  have c3 := c1.trans (hb3.mono c1.size)
  clear hb3 c1
  go_wp2_with fail
  refine (refunquote_any s _ (by omega)).mono ?_
  rintro e w4 ⟨rfl, rfl⟩
  go_wp2_with fail
  refine (alive_any _).mono ?_
  rintro e w5 ⟨rfl, hb5⟩
  have c5 := c3.trans (hb5.mono c3.size)
  clear hb5 c3
  go_wp2_with fail
  go_ret
  exact ⟨rfl, c5⟩

theorem parts_le (b : UInt8) : ∀ (l : List UInt8) (st : Nat) (acc : List UInt8) (P : List (List UInt8)), sp b st acc l = some P → P.length ≤ l.length + 1
  | [], st, acc, P, h => by
    rw [sp] at h
    split at h
    · obtain rfl := Option.some.inj h; simp
    · cases h
  | c :: r, 0, acc, P, h => by
    rw [sp] at h
    split at h
    · cases hr : sp b 0 [] r with
      | none => rw [hr] at h; cases h
      | some Q =>
        rw [hr] at h
        obtain rfl := Option.some.inj h
        have := parts_le b r 0 [] Q hr
        simp; omega
    · split at h
      · have := parts_le b r 1 _ P h; simp; omega
      · have := parts_le b r 0 _ P h; simp; omega
  | c :: r, 1, acc, P, h => by
    rw [sp] at h
    split at h
    · have := parts_le b r 0 _ P h; simp; omega
    · split at h
      · have := parts_le b r 2 _ P h; simp; omega
      · have := parts_le b r 1 _ P h; simp; omega
  | c :: r, n + 2, acc, P, h => by
    rw [sp] at h
    · have := parts_le b r 1 _ P h; simp; omega
    · omega
    · omega
theorem spP_le (b : UInt8) (s : ByteArray) : (spP b s).length ≤ s.size + 1 := by
  unfold spP splitL
  split
  · simp
  · cases h : sp b 0 [] s.data.toList with
    | none => simp
    | some P => have := parts_le b _ _ _ _ h; rw [size_list] at this; simpa using this

theorem below_drewN {B : Nat} {a w : World} (h : Below B a w) (n : Nat) : Below B a (w.drewN n) := ⟨h.os, h.tape, h.output, h.size, h.block⟩

set_option maxHeartbeats 2000000 in
theorem splits_walk (s0 : ByteArray) (b : UInt8) (w : World) (hs0 : s0.size ≤ maxLen) :
    Calls Try.prog 4 #[.string s0, .int .u8 (b.toNat : Int)] w fun e w' => e = .returned (.bool true) ∧ Below w.heap.size w w' := by
  go_enter Try.func4, Try.ntmps4
  go_wp2_with fail
  refine (short_any s0 w hs0).mono ?_
  rintro e w0 ⟨s, rfl, hs, rfl⟩
  go_wp2_with fail
  refine (split_any s b _ (by omega)).mono ?_
  rintro e w1 ⟨va, rfl, ho1, hb1⟩
  go_wp2_with fail
  refine (refsplit_any s b _ (by omega)).mono ?_
  rintro e w2 ⟨vb, rfl, ho2, hb2⟩
  have c2 := hb1.trans (hb2.mono hb1.size)
  have hoa := owns_below ho1 hb2
  go_wp2_with fail
  refine (alive_any _).mono ?_
  rintro e w3 ⟨rfl, hb3⟩
  have c3 := c2.trans (hb3.mono c2.size)
  have hoa3 := owns_below hoa hb3
  have hob3 := owns_below ho2 hb3
  have hle := spP_le b s
  clear ho1 hb1 ho2 hb2 hoa hb3 c2
  have HL := hide hle
  have HA := hide hoa3
  have HB := hide hob3
  clear hle hoa3 hob3
  go_wp2_with fail
  refine (refsame_any (spP b s) va vb _ _ _ HA.out HB.out (by have := HL.out; omega)).mono ?_
  rintro e w4 ⟨rfl, n, rfl⟩
  go_wp2_with fail
  go_ret
  exact ⟨rfl, below_drewN c3 n⟩

end Go.Proofs.Ytlgdjdkekpfphaa
