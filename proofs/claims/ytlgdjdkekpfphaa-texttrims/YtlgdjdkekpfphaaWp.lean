/- The walk of TextTrims. -/
import Derived.Test.YtlgdjdkekpfphaaWo
namespace Go.Proofs.Ytlgdjdkekpfphaa
set_option linter.unusedVariables false
set_option linter.unusedSimpArgs false
open Go.RowKit

theorem trim_twice (s : ByteArray) : trimS (trimS s) = trimS s := bytes_ext (by rw [trimS_list, trimS_list, trimL_twice])
theorem trim_around (s : ByteArray) : trimS (⟨#[32]⟩ ++ s ++ ⟨#[9]⟩) = trimS s := by
  apply bytes_ext
  rw [trimS_list, trimS_list, app_list, app_list]
  exact trimL_around _
theorem trim_first {s : ByteArray} (h : 0 < (trimS s).size) : blankB ((trimS s)[0]'h) = false := by
  apply trimL_head s.data.toList
  rw [← trimS_list, List.head?_eq_getElem?, List.getElem?_eq_getElem (by rw [size_list]; exact h), get_at _ 0 h]
theorem trim_last {s : ByteArray} {m : Nat} (hm : (trimS s).size = m + 1) (hms : m < (trimS s).size) : blankB ((trimS s)[m]'hms) = false := by
  apply trimL_last s.data.toList
  rw [← trimS_list]
  exact last_at hm hms
theorem not_blank {c : UInt8} (h : blankB c = false) : ((c.toNat : Int) == 32) = false ∧ ((c.toNat : Int) == 9) = false := by
  rw [blankB_iff] at h
  simp only [Bool.or_eq_false_iff, decide_eq_false_iff_not] at h
  constructor
  · rw [beq_eq_false_iff_ne]; omega
  · rw [beq_eq_false_iff_ne]; omega
theorem whole_split {s : ByteArray} {b : UInt8} (h1 : b ≠ 34) (h2 : b ≠ 92) (h : ∀ c ∈ s.data.toList, c ≠ b ∧ c ≠ 34) : spP b s = [trimL s.data.toList] ∧ spE b s = 0 := by
  apply sp_okay
  rw [split_of h1 h2]
  exact sp_whole h

set_option maxHeartbeats 2000000 in
theorem trims_walk (s0 : ByteArray) (b : UInt8) (w : World) (hs0 : s0.size ≤ maxLen) :
    Calls Try.prog 9 #[.string s0, .int .u8 (b.toNat : Int)] w fun e w' => e = .returned (.bool true) ∧ Below w.heap.size w w' := by
  go_enter Try.func9, Try.ntmps9
  go_wp2_with fail
  refine (short_any s0 w hs0).mono ?_
  rintro e w0 ⟨s, rfl, hs, rfl⟩
  have HZ : Hid (s.data.toList.length = s.size) := by unfold Hid; simp
  go_wp2_with fail
  refine (trim_any s _ (by omega)).mono ?_
  rintro e w1 ⟨rfl, hb1⟩
  have hts := trimS_size s
  have HT2 := hide (trim_twice s)
  have HTA := hide (trim_around s)
  have HTF : Hid (∀ h : 0 < (trimS s).size, blankB ((trimS s)[0]'h) = false) := fun h => trim_first h
  have HTL : Hid (∀ m, (trimS s).size = m + 1 → ∀ hms : m < (trimS s).size, blankB ((trimS s)[m]'hms) = false) := fun m hm hms => trim_last hm hms
  have HTE : Hid ((⟨(trimL s.data.toList).toArray⟩ : ByteArray) = trimS s) := rfl
  obtain ⟨t, ht⟩ : ∃ t, trimS s = t := ⟨_, rfl⟩
  unfold Hid at HTF HTL
  rw [ht] at hts HT2 HTA HTF HTL HTE ⊢
  have HF := hide HTF
  have HL := hide HTL
  clear ht HTF HTL
  have hzz : (⟨#[32]⟩ ++ s ++ ⟨#[9]⟩ : ByteArray).size ≤ 1000 := by rw [ByteArray.size_append, ByteArray.size_append, show (⟨#[32]⟩ : ByteArray).size = 1 from rfl, show (⟨#[9]⟩ : ByteArray).size = 1 from rfl]; omega
  have HZZ := hide hzz
  clear hzz
  by_cases h0 : t.data.toList = []
  · have he := empty_of h0
    clear h0
    go_wp2_with fail
    refine (trim_any t _ (by omega)).mono ?_
    rintro e w2 ⟨rfl, hb2⟩
    rw [HT2.out]
    have c2 := hb1.trans (hb2.mono hb1.size)
    clear hb1 hb2
    go_wp2_with fail
    refine (trim_any _ _ (by have := HZZ.out; omega)).mono ?_
    rintro e w3 ⟨rfl, hb3⟩
    rw [HTA.out]
    have c3 := c2.trans (hb3.mono c2.size)
    clear c2 hb3
    go_wp2_with fail
    go_loop [64] (fun i => ∃ k : Nat, k ≤ s.size ∧ i = .int .i64 k ∧ Hid (∀ c ∈ s.data.toList.take k, c ≠ b ∧ c ≠ 34)) (fun i => s.size - (intOf i).toNat)
    case atStart => exact ⟨0, Nat.zero_le _, rfl, by simp [Hid]⟩
    case round =>
      obtain ⟨k, hk, rfl, hall⟩ := hrel
      by_cases hlt : k < s.size
      · have hltz : (k : Int) < s.size := by omega
        have HT : Hid (s.data.toList.take (k + 1) = s.data.toList.take k ++ [s[k]'hlt]) := by
          unfold Hid; rw [take_snoc _ k (by rw [HZ.out]; exact hlt), get_at s k hlt]
        by_cases h1 : s[k]'hlt = b
        · have hd1 : (((s[k]'hlt).toNat : Int) == (b.toNat : Int)) = true := by rw [u8_beq, decide_eq_true h1]
          clear h1
          go_wp2_with fail
          refine (alive_any _).mono ?_
          rintro e w4 ⟨rfl, hb4⟩
          go_wp2_with fail
          go_ret
          exact ⟨rfl, c3.trans (hb4.mono c3.size)⟩
        · have hd1 : (((s[k]'hlt).toNat : Int) == (b.toNat : Int)) = false := by rw [u8_beq, decide_eq_false h1]
          by_cases h2 : s[k]'hlt = 34
          · have hd2 : (((s[k]'hlt).toNat : Int) == 34) = true := by have := u8_beq (s[k]'hlt) 34; rw [decide_eq_true h2] at this; exact this
            clear h1 h2
            go_wp2_with fail
            refine (alive_any _).mono ?_
            rintro e w4 ⟨rfl, hb4⟩
            go_wp2_with fail
            go_ret
            exact ⟨rfl, c3.trans (hb4.mono c3.size)⟩
          · have hd2 : (((s[k]'hlt).toNat : Int) == 34) = false := by have := u8_beq (s[k]'hlt) 34; rw [decide_eq_false h2] at this; exact this
            have H1 := hide h1
            have H2 := hide h2
            clear h1 h2
            go_wp2_with fail
            refine ⟨⟨k + 1, by omega, by go_num, ?_⟩, by simp [intOf]; omega⟩
            unfold Hid
            rw [HT.out]
            intro c hc
            rcases List.mem_append.1 hc with hc | hc
            · exact hall.out c hc
            · obtain rfl : c = s[k]'hlt := by simpa using hc
              exact ⟨H1.out, H2.out⟩
      · have hd : decide ((k : Int) < s.size) = false := decide_eq_false (by omega)
        rw [List.take_of_length_le (by rw [HZ.out]; omega)] at hall
        go_wp2_with fail
        refine (split_any s b _ (by omega)).mono ?_
        rintro e w4 ⟨v, rfl, ho, hb4⟩
        have c4 := c3.trans (hb4.mono c3.size)
        clear hb4 c3
        by_cases h34 : b = 34
        · rw [(split_bad (s := s) (Or.inl h34)).2]
          have hbb : ((b.toNat : Int) == 34) = true := by have := u8_beq b 34; rw [decide_eq_true h34] at this; exact this
          clear h34 ho
          go_wp2_with fail
          refine (alive_any _).mono ?_
          rintro e w5 ⟨rfl, hb5⟩
          go_wp2_with fail
          go_ret
          exact ⟨rfl, c4.trans (hb5.mono c4.size)⟩
        · have hbc : ((b.toNat : Int) == 34) = false := by have := u8_beq b 34; rw [decide_eq_false h34] at this; exact this
          by_cases h92 : b = 92
          · rw [(split_bad (s := s) (Or.inr h92)).2]
            have hbb : ((b.toNat : Int) == 92) = true := by have := u8_beq b 92; rw [decide_eq_true h92] at this; exact this
            clear h34 h92 ho
            go_wp2_with fail
            refine (alive_any _).mono ?_
            rintro e w5 ⟨rfl, hb5⟩
            go_wp2_with fail
            go_ret
            exact ⟨rfl, c4.trans (hb5.mono c4.size)⟩
          · have hbb : ((b.toNat : Int) == 92) = false := by have := u8_beq b 92; rw [decide_eq_false h92] at this; exact this
            have hp := whole_split h34 h92 hall.out
            rw [hp.1] at ho
            rw [hp.2]
            clear hp h34 h92
            go_wp2_with fail
            refine (alive_any _).mono ?_
            rintro e w5 ⟨rfl, hb5⟩
            have c5 := c4.trans (hb5.mono c4.size)
            obtain ⟨a, ca, rfl, hca, hA⟩ := row_shape (owns_below ho hb5)
            obtain ⟨g, rfl, hg⟩ := hA 0 (by simp)
            have hg1 : w5.cell? ⟨g, 0, none⟩ = some (.string t) := by rw [hg, ← HTE.out]; rfl
            clear hA ho hg hb5
            go_wp2_with fail
            go_ret
            exact ⟨rfl, c5⟩
  · have he := empty_not h0
    have h0s : 0 < t.size := by rw [← size_list]; exact List.length_pos_iff.2 h0
    have h0z : (0 : Int) < t.size := by omega
    obtain ⟨m, hm⟩ : ∃ m, t.size = m + 1 := ⟨t.size - 1, by omega⟩
    have hms : m < t.size := by omega
    have hmz : (t.size : Int) - 1 = (m : Int) := by omega
    obtain ⟨hf1, hf2⟩ := not_blank (HF.out h0s)
    obtain ⟨hl1, hl2⟩ := not_blank (HL.out m hm hms)
    clear h0 hm
    go_wp2_with fail
    refine (trim_any t _ (by omega)).mono ?_
    rintro e w2 ⟨rfl, hb2⟩
    rw [HT2.out]
    have c2 := hb1.trans (hb2.mono hb1.size)
    clear hb1 hb2
    go_wp2_with fail
    refine (trim_any _ _ (by have := HZZ.out; omega)).mono ?_
    rintro e w3 ⟨rfl, hb3⟩
    rw [HTA.out]
    have c3 := c2.trans (hb3.mono c2.size)
    clear c2 hb3
    go_wp2_with fail
    go_loop [64] (fun i => ∃ k : Nat, k ≤ s.size ∧ i = .int .i64 k ∧ Hid (∀ c ∈ s.data.toList.take k, c ≠ b ∧ c ≠ 34)) (fun i => s.size - (intOf i).toNat)
    case atStart => exact ⟨0, Nat.zero_le _, rfl, by simp [Hid]⟩
    case round =>
      obtain ⟨k, hk, rfl, hall⟩ := hrel
      by_cases hlt : k < s.size
      · have hltz : (k : Int) < s.size := by omega
        have HT : Hid (s.data.toList.take (k + 1) = s.data.toList.take k ++ [s[k]'hlt]) := by
          unfold Hid; rw [take_snoc _ k (by rw [HZ.out]; exact hlt), get_at s k hlt]
        by_cases h1 : s[k]'hlt = b
        · have hd1 : (((s[k]'hlt).toNat : Int) == (b.toNat : Int)) = true := by rw [u8_beq, decide_eq_true h1]
          clear h1
          go_wp2_with fail
          refine (alive_any _).mono ?_
          rintro e w4 ⟨rfl, hb4⟩
          go_wp2_with fail
          go_ret
          exact ⟨rfl, c3.trans (hb4.mono c3.size)⟩
        · have hd1 : (((s[k]'hlt).toNat : Int) == (b.toNat : Int)) = false := by rw [u8_beq, decide_eq_false h1]
          by_cases h2 : s[k]'hlt = 34
          · have hd2 : (((s[k]'hlt).toNat : Int) == 34) = true := by have := u8_beq (s[k]'hlt) 34; rw [decide_eq_true h2] at this; exact this
            clear h1 h2
            go_wp2_with fail
            refine (alive_any _).mono ?_
            rintro e w4 ⟨rfl, hb4⟩
            go_wp2_with fail
            go_ret
            exact ⟨rfl, c3.trans (hb4.mono c3.size)⟩
          · have hd2 : (((s[k]'hlt).toNat : Int) == 34) = false := by have := u8_beq (s[k]'hlt) 34; rw [decide_eq_false h2] at this; exact this
            have H1 := hide h1
            have H2 := hide h2
            clear h1 h2
            go_wp2_with fail
            refine ⟨⟨k + 1, by omega, by go_num, ?_⟩, by simp [intOf]; omega⟩
            unfold Hid
            rw [HT.out]
            intro c hc
            rcases List.mem_append.1 hc with hc | hc
            · exact hall.out c hc
            · obtain rfl : c = s[k]'hlt := by simpa using hc
              exact ⟨H1.out, H2.out⟩
      · have hd : decide ((k : Int) < s.size) = false := decide_eq_false (by omega)
        rw [List.take_of_length_le (by rw [HZ.out]; omega)] at hall
        go_wp2_with fail
        refine (split_any s b _ (by omega)).mono ?_
        rintro e w4 ⟨v, rfl, ho, hb4⟩
        have c4 := c3.trans (hb4.mono c3.size)
        clear hb4 c3
        by_cases h34 : b = 34
        · rw [(split_bad (s := s) (Or.inl h34)).2]
          have hbb : ((b.toNat : Int) == 34) = true := by have := u8_beq b 34; rw [decide_eq_true h34] at this; exact this
          clear h34 ho
          go_wp2_with fail
          refine (alive_any _).mono ?_
          rintro e w5 ⟨rfl, hb5⟩
          go_wp2_with fail
          go_ret
          exact ⟨rfl, c4.trans (hb5.mono c4.size)⟩
        · have hbc : ((b.toNat : Int) == 34) = false := by have := u8_beq b 34; rw [decide_eq_false h34] at this; exact this
          by_cases h92 : b = 92
          · rw [(split_bad (s := s) (Or.inr h92)).2]
            have hbb : ((b.toNat : Int) == 92) = true := by have := u8_beq b 92; rw [decide_eq_true h92] at this; exact this
            clear h34 h92 ho
            go_wp2_with fail
            refine (alive_any _).mono ?_
            rintro e w5 ⟨rfl, hb5⟩
            go_wp2_with fail
            go_ret
            exact ⟨rfl, c4.trans (hb5.mono c4.size)⟩
          · have hbb : ((b.toNat : Int) == 92) = false := by have := u8_beq b 92; rw [decide_eq_false h92] at this; exact this
            have hp := whole_split h34 h92 hall.out
            rw [hp.1] at ho
            rw [hp.2]
            clear hp h34 h92
            go_wp2_with fail
            refine (alive_any _).mono ?_
            rintro e w5 ⟨rfl, hb5⟩
            have c5 := c4.trans (hb5.mono c4.size)
            obtain ⟨a, ca, rfl, hca, hA⟩ := row_shape (owns_below ho hb5)
            obtain ⟨g, rfl, hg⟩ := hA 0 (by simp)
            have hg1 : w5.cell? ⟨g, 0, none⟩ = some (.string t) := by rw [hg, ← HTE.out]; rfl
            clear hA ho hg hb5
            go_wp2_with fail
            go_ret
            exact ⟨rfl, c5⟩

end Go.Proofs.Ytlgdjdkekpfphaa
