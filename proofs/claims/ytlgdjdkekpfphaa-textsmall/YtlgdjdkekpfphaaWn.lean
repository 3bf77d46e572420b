/- The walks of TextSmall. -/
import Derived.Test.YtlgdjdkekpfphaaWm
namespace Go.Proofs.Ytlgdjdkekpfphaa
set_option linter.unusedVariables false
set_option linter.unusedSimpArgs false
open Go.RowKit

theorem low_low (s : ByteArray) : lowS (lowS s) = lowS s := bytes_ext (by rw [lowS_list, lowS_list, lowL_twice])
theorem same_comm (s t : ByteArray) : sameB t s = sameB s t := by unfold sameB; exact BEq.comm
theorem tok_low (s : ByteArray) : tokB (lowS s) = tokB s := by unfold tokB; rw [lowS_list, tokL_low]
theorem tok_app {s t : ByteArray} (h : tokB s = true) (g : tokB t = true) : tokB (s ++ t) = true := by
  unfold tokB at *
  rw [app_list]
  exact tokL_append h g

set_option maxHeartbeats 400000 in
theorem small_walk (s0 t0 : ByteArray) (w : World) (hs0 : s0.size ≤ maxLen) (ht0 : t0.size ≤ maxLen) :
    Calls Try.prog 8 #[.string s0, .string t0] w fun e w' => e = .returned (.bool true) ∧ Below w.heap.size w w' := by
  go_enter Try.func8, Try.ntmps8
  go_wp2_with fail
  refine (short_any s0 w hs0).mono ?_
  rintro e w0 ⟨s, rfl, hs, rfl⟩
  go_wp2_with fail
  refine (short_any t0 _ ht0).mono ?_
  rintro e w0 ⟨t, rfl, ht, rfl⟩
  have hl := lowS_size s
  have hll := low_low s
  have hsl := same_low s
  have hsy := same_comm s t
  have htl := tok_low s
  have HLS := hide hl
  go_wp2_with fail
  refine (lower_any s _ (by omega)).mono ?_
  rintro e w1 ⟨rfl, hb1⟩
  have c1 := hb1
  clear hb1
  cases hts : tokB s
  · go_wp2_with fail
    refine (token_any s _ (by omega)).mono ?_
    rintro e w2 ⟨rfl, hb2⟩
    have c2 := c1.trans (hb2.mono c1.size)
    clear hb2 c1
    go_wp2_with fail
    refine (alive_any _).mono ?_
    rintro e w3 ⟨rfl, hb3⟩
    have c3 := c2.trans (hb3.mono c2.size)
    clear hb3 c2
    go_wp2_with fail
    refine (lower_any (lowS s) _ (by rw [HLS.out]; omega)).mono ?_
    rintro e w4 ⟨rfl, hb4⟩
    have c4 := c3.trans (hb4.mono c3.size)
    clear hb4 c3
    go_wp2_with fail
    refine (same_any s (lowS s) _ (by omega) (by rw [HLS.out]; omega)).mono ?_
    rintro e w5 ⟨rfl, hb5⟩
    have c5 := c4.trans (hb5.mono c4.size)
    clear hb5 c4
    go_wp2_with fail
    refine (same_any s t _ (by omega) (by omega)).mono ?_
    rintro e w6 ⟨rfl, hb6⟩
    have c6 := c5.trans (hb6.mono c5.size)
    clear hb6 c5
    go_wp2_with fail
    refine (same_any t s _ (by omega) (by omega)).mono ?_
    rintro e w7 ⟨rfl, hb7⟩
    have c7 := c6.trans (hb7.mono c6.size)
    clear hb7 c6
    go_wp2_with fail
    refine (token_any s _ (by omega)).mono ?_
    rintro e w8 ⟨rfl, hb8⟩
    have c8 := c7.trans (hb8.mono c7.size)
    clear hb8 c7
    go_wp2_with fail
    refine (token_any (lowS s) _ (by rw [HLS.out]; omega)).mono ?_
    rintro e w9 ⟨rfl, hb9⟩
    have c9 := c8.trans (hb9.mono c8.size)
    clear hb9 c8
    go_wp2_with fail
    go_ret
    exact ⟨rfl, c9⟩
  · cases htt : tokB t
    · go_wp2_with fail
      refine (token_any s _ (by omega)).mono ?_
      rintro e w2 ⟨rfl, hb2⟩
      have c2 := c1.trans (hb2.mono c1.size)
      clear hb2 c1
      go_wp2_with fail
      refine (token_any t _ (by omega)).mono ?_
      rintro e w3 ⟨rfl, hb3⟩
      have c3 := c2.trans (hb3.mono c2.size)
      clear hb3 c2
      go_wp2_with fail
      refine (alive_any _).mono ?_
      rintro e w4 ⟨rfl, hb4⟩
      have c4 := c3.trans (hb4.mono c3.size)
      clear hb4 c3
      go_wp2_with fail
      refine (lower_any (lowS s) _ (by rw [HLS.out]; omega)).mono ?_
      rintro e w5 ⟨rfl, hb5⟩
      have c5 := c4.trans (hb5.mono c4.size)
      clear hb5 c4
      go_wp2_with fail
      refine (same_any s (lowS s) _ (by omega) (by rw [HLS.out]; omega)).mono ?_
      rintro e w6 ⟨rfl, hb6⟩
      have c6 := c5.trans (hb6.mono c5.size)
      clear hb6 c5
      go_wp2_with fail
      refine (same_any s t _ (by omega) (by omega)).mono ?_
      rintro e w7 ⟨rfl, hb7⟩
      have c7 := c6.trans (hb7.mono c6.size)
      clear hb7 c6
      go_wp2_with fail
      refine (same_any t s _ (by omega) (by omega)).mono ?_
      rintro e w8 ⟨rfl, hb8⟩
      have c8 := c7.trans (hb8.mono c7.size)
      clear hb8 c7
      go_wp2_with fail
      refine (token_any s _ (by omega)).mono ?_
      rintro e w9 ⟨rfl, hb9⟩
      have c9 := c8.trans (hb9.mono c8.size)
      clear hb9 c8
      go_wp2_with fail
      refine (token_any (lowS s) _ (by rw [HLS.out]; omega)).mono ?_
      rintro e w10 ⟨rfl, hb10⟩
      have c10 := c9.trans (hb10.mono c9.size)
      clear hb10 c9
      go_wp2_with fail
      go_ret
      exact ⟨rfl, c10⟩
    · have hst := tok_app hts htt
      have hsd := tok_app (tok_app hts (show tokB ⟨#[45]⟩ = true by decide)) htt
      have hz1 : (s ++ t).size ≤ 1000 := by rw [ByteArray.size_append]; omega
      have hz2 : (s ++ ⟨#[45]⟩ ++ t).size ≤ 1000 := by rw [ByteArray.size_append, ByteArray.size_append, show (⟨#[45]⟩ : ByteArray).size = 1 from rfl]; omega
      have HZ1 := hide hz1
      have HZ2 := hide hz2
      go_wp2_with fail
      refine (token_any s _ (by omega)).mono ?_
      rintro e w2 ⟨rfl, hb2⟩
      have c2 := c1.trans (hb2.mono c1.size)
      clear hb2 c1
      go_wp2_with fail
      refine (token_any t _ (by omega)).mono ?_
      rintro e w3 ⟨rfl, hb3⟩
      have c3 := c2.trans (hb3.mono c2.size)
      clear hb3 c2
      go_wp2_with fail
      refine (token_any _ _ (by have := HZ1.out; omega)).mono ?_
      rintro e w4 ⟨rfl, hb4⟩
      have c4 := c3.trans (hb4.mono c3.size)
      clear hb4 c3
      go_wp2_with fail
      refine (token_any _ _ (by have := HZ2.out; omega)).mono ?_
      rintro e w5 ⟨rfl, hb5⟩
      have c5 := c4.trans (hb5.mono c4.size)
      clear hb5 c4
      go_wp2_with fail
      refine (alive_any _).mono ?_
      rintro e w6 ⟨rfl, hb6⟩
      have c6 := c5.trans (hb6.mono c5.size)
      clear hb6 c5
      go_wp2_with fail
      refine (lower_any (lowS s) _ (by rw [HLS.out]; omega)).mono ?_
      rintro e w7 ⟨rfl, hb7⟩
      have c7 := c6.trans (hb7.mono c6.size)
      clear hb7 c6
      go_wp2_with fail
      refine (same_any s (lowS s) _ (by omega) (by rw [HLS.out]; omega)).mono ?_
      rintro e w8 ⟨rfl, hb8⟩
      have c8 := c7.trans (hb8.mono c7.size)
      clear hb8 c7
      go_wp2_with fail
      refine (same_any s t _ (by omega) (by omega)).mono ?_
      rintro e w9 ⟨rfl, hb9⟩
      have c9 := c8.trans (hb9.mono c8.size)
      clear hb9 c8
      go_wp2_with fail
      refine (same_any t s _ (by omega) (by omega)).mono ?_
      rintro e w10 ⟨rfl, hb10⟩
      have c10 := c9.trans (hb10.mono c9.size)
      clear hb10 c9
      go_wp2_with fail
      refine (token_any s _ (by omega)).mono ?_
      rintro e w11 ⟨rfl, hb11⟩
      have c11 := c10.trans (hb11.mono c10.size)
      clear hb11 c10
      go_wp2_with fail
      refine (token_any (lowS s) _ (by rw [HLS.out]; omega)).mono ?_
      rintro e w12 ⟨rfl, hb12⟩
      have c12 := c11.trans (hb12.mono c11.size)
      clear hb12 c11
      go_wp2_with fail
      go_ret
      exact ⟨rfl, c12⟩

end Go.Proofs.Ytlgdjdkekpfphaa
