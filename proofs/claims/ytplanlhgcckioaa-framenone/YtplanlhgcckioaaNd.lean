/- The walks of the document's own readings. -/
import Derived.Test.YtplanlhgcckioaaNb
namespace Go.Proofs.Ytplanlhgcckioaa
set_option linter.unusedVariables false
set_option linter.unusedSimpArgs false
set_option maxRecDepth 100000
open Go.RowKit

set_option maxHeartbeats 1000000 in
theorem refRead10 (s : ByteArray) (w : World) (hs : s.size ≤ maxLen) :
    Calls Try.prog 36 #[.string s, .int .u64 10] w fun e w' => e = .returned (.tuple #[.int .u64 (rdN 10 s.data.toList : Nat), .int .i64 (rdE 10 s.data.toList : Nat)]) ∧ w' = w := by
  unfold maxLen at hs
  have HZ : Hid (s.data.toList.length = s.size) := by unfold Hid; simp
  by_cases h0 : s.data.toList = []
  · have he := empty_of h0
    have H0 : Hid (s.data.toList = []) := h0
    clear h0
    go_enter Try.func36, Try.ntmps36
    go_wp2
    go_ret2
    exact ⟨ret_ii (by rw [rdN_bad (Or.inl H0.out)]; rfl) (by rw [rdE_bad (Or.inl H0.out)]; rfl), rfl⟩
  · have he := empty_not h0
    have H0 : Hid (s.data.toList ≠ []) := h0
    clear h0
    go_enter Try.func36, Try.ntmps36
    go_wp2
    go_loop [6] (fun i => ∃ k : Nat, k ≤ s.size ∧ i = .int .i64 k ∧ Hid (okay 10 (s.data.toList.take k) = true)) (fun i => s.size - (intOf i).toNat)
    case atStart => exact ⟨0, Nat.zero_le _, rfl, by simp [Hid, okay]⟩
    case round =>
      obtain ⟨k, hk, rfl, hok⟩ := hrel
      by_cases hlt : k < s.size
      · have HT : Hid (s.data.toList.take (k + 1) = s.data.toList.take k ++ [s[k]]) := by
          unfold Hid; rw [take_snoc _ k (by rw [HZ.out]; exact hlt), get_at s k hlt]
        have hv := vr_le s[k]
        by_cases hd : vr s[k] < 10
        · go_wp2_with (go_at_call 53; refine (value_any _ _).mono ?_; rintro e w' ⟨rfl, rfl⟩)
          refine ⟨⟨k + 1, by omega, by go_num, ?_⟩, by simp [intOf]; omega⟩
          unfold Hid; rw [HT.out, okay_snoc, hok.out, decide_eq_true ((vr_lt _ _ (by omega)).1 hd)]; rfl
        · go_wp2_with (go_at_call 53; refine (value_any _ _).mono ?_; rintro e w' ⟨rfl, rfl⟩)
          go_ret2
          have hf : okay 10 s.data.toList = false := okay_at_false (k := k) (by rw [HZ.out]; exact hlt) (by rw [get_at s k hlt]; exact fun e => hd ((vr_lt _ _ (by omega)).2 e))
          exact ⟨ret_ii (by rw [rdN_bad (Or.inr hf)]; rfl) (by rw [rdE_bad (Or.inr hf)]; rfl), rfl⟩
      · have HK : Hid (okay 10 s.data.toList = true) := by
          have := hok.out
          rw [List.take_of_length_le (by rw [HZ.out]; omega)] at this
          exact this
        clear hok
        go_wp2
        go_loop [7, 8] (fun n i => ∃ k : Nat, k ≤ s.size ∧ i = .int .i64 k ∧ n = .int .u64 (val 10 (s.data.toList.take k) : Nat) ∧ val 10 (s.data.toList.take k) ≤ 1099511627776) (fun _ i => s.size - (intOf i).toNat)
        case atStart => exact ⟨0, Nat.zero_le _, rfl, by simp [val_nil], by simp [val_nil]⟩
        case round =>
          obtain ⟨k, hk, rfl, rfl, hn⟩ := hrel
          by_cases hlt : k < s.size
          · have HT : Hid (val 10 (s.data.toList.take (k + 1)) = val 10 (s.data.toList.take k) * 10 + vl s[k]) := by
              unfold Hid; rw [take_snoc _ k (by rw [HZ.out]; exact hlt), get_at s k hlt, val_snoc]
            have hv : vl s[k] < 10 := by
              have := okay_at HK.out k (by rw [HZ.out]; exact hlt)
              rw [get_at s k hlt] at this
              exact this
            have HR : Hid (vr s[k] = vl s[k]) := vr_of (by omega) hv
            have hG := val_grows 10 (by omega) (s.data.toList.take (k + 1)) (s.data.toList.drop (k + 1))
            rw [List.take_append_drop] at hG
            by_cases hg : 1099511627776 < val 10 (s.data.toList.take k) * 10 + vl s[k]
            · have HG : Hid (1099511627776 < val 10 s.data.toList) := by unfold Hid; rw [HT.out] at hG; omega
              clear hG
              go_wp2_with (go_at_call 53; refine (value_any _ _).mono ?_; rintro e w' ⟨rfl, rfl⟩; rw [HR.out])
              go_ret2
              exact ⟨ret_ii (by rw [rdN_long HG.out]; rfl) (by rw [rdE_long H0.out HK.out HG.out]; rfl), rfl⟩
            · clear hG
              go_wp2_with (go_at_call 53; refine (value_any _ _).mono ?_; rintro e w' ⟨rfl, rfl⟩; rw [HR.out])
              all_goals first
                | (exfalso; omega)
                | (refine ⟨⟨k + 1, by omega, by go_num, ?_, ?_⟩, by simp [intOf]; omega⟩
                   · rw [HT.out]; congr 1; omega
                   · rw [HT.out]; omega)
          · have HE : Hid (s.data.toList.take k = s.data.toList) := by
              unfold Hid; rw [List.take_of_length_le (by rw [HZ.out]; omega)]
            go_wp2
            go_ret2
            rw [HE.out] at hn
            exact ⟨ret_ii (by rw [rdN_fine H0.out HK.out (by omega), HE.out]) (by rw [rdE_fine H0.out HK.out (by omega)]; rfl), rfl⟩

theorem head_minus (s : ByteArray) (h : 0 < s.size) : s.data.toList.head? = some s[0] := by
  rw [List.head?_eq_getElem?, List.getElem?_eq_getElem (by simpa using h), get_at s 0 h]

end Go.Proofs.Ytplanlhgcckioaa
