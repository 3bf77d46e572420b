/- The walk of TextBack. -/
import Derived.Test.YtlgdjdkekpfphaaWm
namespace Go.Proofs.Ytlgdjdkekpfphaa
set_option linter.unusedVariables false
set_option linter.unusedSimpArgs false
open Go.RowKit

theorem quote_back {s : ByteArray} (h : ctlB s = false) : uS ⟨(quoteL s.data.toList).toArray⟩ = s ∧ uE ⟨(quoteL s.data.toList).toArray⟩ = 0 := by
  have hq : quoB ⟨(quoteL s.data.toList).toArray⟩ = true := quote_quoted h
  unfold uS uE
  rw [hq]
  refine ⟨bytes_ext ?_, rfl⟩
  show unescL (midL (quoteL s.data.toList)) = _
  rw [quote_mid, unesc_esc]
theorem quote_size (s : ByteArray) : (⟨(quoteL s.data.toList).toArray⟩ : ByteArray).size ≤ 2 * s.size + 2 := by
  rw [← size_list]
  have := escL_le s.data.toList
  rw [size_list] at this
  simp [quoteL]
  omega
theorem quote_split {s : ByteArray} {b : UInt8} (h1 : b ≠ 34) (h2 : b ≠ 92) : spP b ⟨(quoteL s.data.toList).toArray⟩ = [quoteL s.data.toList] ∧ spE b ⟨(quoteL s.data.toList).toArray⟩ = 0 := by
  apply sp_okay
  rw [split_of h1 h2]
  exact quote_one h1
theorem split_bad {s : ByteArray} {b : UInt8} (h : b = 34 ∨ b = 92) : spP b s = [] ∧ spE b s = 11 := sp_err (by rw [splitL, if_pos h])

set_option maxHeartbeats 400000 in
theorem back_walk (s0 : ByteArray) (b : UInt8) (w : World) (hs0 : s0.size ≤ maxLen) :
    Calls Try.prog 6 #[.string s0, .int .u8 (b.toNat : Int)] w fun e w' => e = .returned (.bool true) ∧ Below w.heap.size w w' := by
  go_enter Try.func6, Try.ntmps6
  go_wp2_with fail
  refine (short_any s0 w hs0).mono ?_
  rintro e w0 ⟨s, rfl, hs, rfl⟩
  go_wp2_with fail
  refine (quote_any s _ (by omega)).mono ?_
  rintro e w1 ⟨rfl, hb1⟩
  cases hc : ctlB s
  · have hQ : qS s = ⟨(quoteL s.data.toList).toArray⟩ ∧ qE s = 0 := by unfold qS qE; rw [hc]; simp
    rw [hQ.1, hQ.2]
    clear hQ
    have HU := hide (quote_back hc)
    have HQS : Hid (b ≠ 34 → b ≠ 92 → spP b ⟨(quoteL s.data.toList).toArray⟩ = [quoteL s.data.toList] ∧ spE b ⟨(quoteL s.data.toList).toArray⟩ = 0) := quote_split
    have HSZ := hide (quote_size s)
    obtain ⟨ql, hql⟩ : ∃ ql, quoteL s.data.toList = ql := ⟨_, rfl⟩
    rw [hql] at HU HQS HSZ ⊢
    clear hql hc
    obtain ⟨Q, hQ⟩ : ∃ Q : ByteArray, (⟨ql.toArray⟩ : ByteArray) = Q := ⟨_, rfl⟩
    have HQ := hide hQ
    rw [hQ] at HU HQS HSZ ⊢
    clear hQ
    go_wp2_with fail
    refine (unquote_any Q _ (by have := HSZ.out; omega)).mono ?_
    rintro e w2 ⟨rfl, hb2⟩
    rw [HU.out.1, HU.out.2]
    have c2 := hb1.trans (hb2.mono hb1.size)
    clear hb1 hb2
    go_wp2_with fail
    refine (split_any Q b _ (by have := HSZ.out; omega)).mono ?_
    rintro e w3 ⟨v, rfl, ho, hb3⟩
    have c3 := c2.trans (hb3.mono c2.size)
    clear hb3 c2
    by_cases h34 : b = 34
    · rw [(split_bad (s := Q) (Or.inl h34)).2]
      have hbb : ((b.toNat : Int) == 34) = true := by have := u8_beq b 34; rw [decide_eq_true h34] at this; exact this
      clear h34 ho
      go_wp2_with fail
      refine (alive_any _).mono ?_
      rintro e w4 ⟨rfl, hb4⟩
      go_wp2_with fail
      go_ret
      exact ⟨rfl, c3.trans (hb4.mono c3.size)⟩
    · have hbc : ((b.toNat : Int) == 34) = false := by have := u8_beq b 34; rw [decide_eq_false h34] at this; exact this
      by_cases h92 : b = 92
      · rw [(split_bad (s := Q) (Or.inr h92)).2]
        have hbb : ((b.toNat : Int) == 92) = true := by have := u8_beq b 92; rw [decide_eq_true h92] at this; exact this
        clear h34 h92 ho
        go_wp2_with fail
        refine (alive_any _).mono ?_
        rintro e w4 ⟨rfl, hb4⟩
        go_wp2_with fail
        go_ret
        exact ⟨rfl, c3.trans (hb4.mono c3.size)⟩
      · have hbb : ((b.toNat : Int) == 92) = false := by have := u8_beq b 92; rw [decide_eq_false h92] at this; exact this
        have hp := HQS.out h34 h92
        rw [hp.1] at ho
        rw [hp.2]
        clear hp h34 h92
        go_wp2_with fail
        refine (alive_any _).mono ?_
        rintro e w4 ⟨rfl, hb4⟩
        have c4 := c3.trans (hb4.mono c3.size)
        obtain ⟨a, ca, rfl, hca, hA⟩ := row_shape (owns_below ho hb4)
        obtain ⟨g, rfl, hg⟩ := hA 0 (by simp)
        have hg1 : w4.cell? ⟨g, 0, none⟩ = some (.string Q) := by rw [hg, ← HQ.out]; rfl
        clear hA ho hg hb4
        go_wp2_with fail
        go_ret
        exact ⟨rfl, c4⟩
  · have hQ : qS s = ⟨#[]⟩ ∧ qE s = 11 := by unfold qS qE; rw [hc]; simp
    rw [hQ.1, hQ.2]
    clear hQ
    have HC := hide hc
    clear hc
    have HZ : Hid (s.data.toList.length = s.size) := by unfold Hid; simp
    go_wp2_with fail
    go_loop [7, 24] (fun x i => ∃ k : Nat, k ≤ s.size ∧ i = .int .i64 k ∧ x = .bool ((s.data.toList.take k).any ctrlB)) (fun _ i => s.size - (intOf i).toNat)
    case atStart => exact ⟨0, Nat.zero_le _, rfl, by simp⟩
    case round =>
      obtain ⟨k, hk, rfl, rfl⟩ := hrel
      by_cases hlt : k < s.size
      · have hltz : (k : Int) < s.size := by omega
        have HT : Hid ((s.data.toList.take (k + 1)).any ctrlB = ((s.data.toList.take k).any ctrlB || ctrlB (s[k]'hlt))) := by
          unfold Hid
          rw [take_snoc _ k (by rw [HZ.out]; exact hlt), get_at s k hlt, List.any_append]; simp
        obtain ⟨x, hx⟩ : ∃ x, (s.data.toList.take k).any ctrlB = x := ⟨_, rfl⟩
        rw [hx] at HT ⊢
        clear hx
        cases x
        · go_wp2_with (go_at_call 26; refine (control_any _ _).mono ?_; rintro e w' ⟨rfl, rfl⟩)
          refine ⟨⟨k + 1, by omega, by go_num, by rw [HT.out, Bool.false_or]⟩, by simp [intOf]; omega⟩
        · go_wp2_with fail
          refine ⟨⟨k + 1, by omega, by go_num, by rw [HT.out, Bool.true_or]⟩, by simp [intOf]; omega⟩
      · have hd : decide ((k : Int) < s.size) = false := decide_eq_false (by omega)
        rw [List.take_of_length_le (by rw [HZ.out]; omega)]
        rw [show s.data.toList.any ctrlB = true from HC.out]
        go_wp2_with fail
        refine (alive_any _).mono ?_
        rintro e w2 ⟨rfl, hb2⟩
        go_wp2_with fail
        go_ret
        exact ⟨rfl, hb1.trans (hb2.mono hb1.size)⟩

end Go.Proofs.Ytlgdjdkekpfphaa
