/- The walks of the reading functions. -/
import Derived.Test.YtmpijlaidnhpnaaGreatJNa
namespace Go.Proofs.YtmpijlaidnhpnaaGreat
set_option linter.unusedVariables false
set_option linter.unusedSimpArgs false
set_option maxRecDepth 100000
open Go.RowKit

theorem ret_ii {k1 k2 : IntKind} {a b c d : Int} (h : a = b) (g : c = d) : Ending.returned (.tuple #[.int k1 a, .int k2 c]) = .returned (.tuple #[.int k1 b, .int k2 d]) := by rw [h, g]

set_option maxHeartbeats 1000000 in
theorem read_u10 (s : ByteArray) (a : Nat) (w : World) (hs : s.size ≤ maxLen) (h : w.cell? ⟨a, 0, none⟩ = some (.int .u64 10)) :
    Calls Tryz.prog 154 #[.string s, .int .u64 10, .func (.func 162) #[] #[.pointer (some ⟨a, 0, none⟩)]] w fun e w' => e = .returned (.tuple #[.int .u64 (rdN 10 s.data.toList : Nat), .int .i64 (rdE 10 s.data.toList : Nat)]) ∧ ∃ n, w' = w.drewN n := by
  unfold maxLen at hs
  have HZ : Hid (s.data.toList.length = s.size) := by unfold Hid; simp
  by_cases h0 : s.data.toList = []
  · have he := empty_of h0
    have H0 : Hid (s.data.toList = []) := h0
    clear h0
    go_enter Tryz.func154, Tryz.ntmps154
    go_wp2
    go_ret2
    exact ⟨ret_ii (by rw [rdN_bad (Or.inl H0.out)]; rfl) (by rw [rdE_bad (Or.inl H0.out)]; rfl), 0, by simp [World.drewN]⟩
  · have he := empty_not h0
    have H0 : Hid (s.data.toList ≠ []) := h0
    clear h0
    go_enter Tryz.func154, Tryz.ntmps154
    go_wp2
    go_loopw [8, 16] (fun n i wr => ∃ k t : Nat, k ≤ s.size ∧ i = .int .i64 k ∧ n = .int .u64 (cap 10 (s.data.toList.take k) : Nat) ∧ Hid (okay 10 (s.data.toList.take k) = true) ∧ wr = w.drewN t) (fun _ i _ => s.size - (intOf i).toNat)
    case atStart => exact ⟨0, 0, Nat.zero_le _, rfl, by simp [cap_nil], by simp [Hid, okay], by simp [World.drewN]⟩
    case round =>
      obtain ⟨k, t, hk, rfl, rfl, hok, rfl⟩ := hrel
      have hcap := cap_le 10 (s.data.toList.take k)
      by_cases hlt : k < s.size
      · have hv := vl_le s[k]
        have HT : Hid (s.data.toList.take (k + 1) = s.data.toList.take k ++ [s[k]]) := by
          unfold Hid; rw [take_snoc _ k (by rw [HZ.out]; exact hlt), get_at s k hlt]
        have hcell : (w.drewN t).cell? ⟨a, 0, none⟩ = some (.int .u64 10) := by rw [World.cell?_drewN]; exact h
        by_cases hd : vl s[k] < 10
        · have HC : Hid (cap 10 (s.data.toList.take (k + 1)) = min (cap 10 (s.data.toList.take k) * 10 + vl s[k]) 1099511627777) := by
            unfold Hid; rw [HT.out, cap_snoc 10 (by omega)]
          go_wp2_with fail
          refine (tells_u s[k] a 10 _ hcell).mono ?_
          rintro e w2 ⟨rfl, t2, rfl⟩
          rw [decide_eq_true hd]
          go_wp2
          refine ⟨⟨k + 1, t + t2, by omega, by go_num, ?_, ?_, rfl⟩, by simp [intOf]; omega⟩
          · rw [HC.out]; congr 1; split <;> omega
          · unfold Hid; rw [HT.out, okay_snoc, hok.out, decide_eq_true hd]; rfl
        · go_wp2_with fail
          refine (tells_u s[k] a 10 _ hcell).mono ?_
          rintro e w2 ⟨rfl, t2, rfl⟩
          rw [decide_eq_false hd]
          go_wp2
          go_ret2
          have hf : okay 10 s.data.toList = false := okay_at_false (k := k) (by rw [HZ.out]; exact hlt) (by rw [get_at s k hlt]; exact hd)
          exact ⟨ret_ii (by rw [rdN_bad (Or.inr hf)]; rfl) (by rw [rdE_bad (Or.inr hf)]; rfl), t + t2, rfl⟩
      · have HK : Hid (s.data.toList.take k = s.data.toList) := by
          unfold Hid; rw [List.take_of_length_le (by rw [HZ.out]; omega)]
        rw [HK.out] at hok
        by_cases hg : 1099511627776 < cap 10 (s.data.toList.take k)
        · go_wp2
          go_ret2
          rw [HK.out, cap_gt] at hg
          exact ⟨ret_ii (by rw [rdN_long hg]; rfl) (by rw [rdE_long H0.out hok.out hg]; rfl), t, rfl⟩
        · go_wp2
          go_ret2
          rw [HK.out, cap_gt] at hg
          exact ⟨ret_ii (by rw [rdN_fine H0.out hok.out hg, HK.out, cap_eq _ _ hg]) (by rw [rdE_fine H0.out hok.out hg]; rfl), t, rfl⟩

end Go.Proofs.YtmpijlaidnhpnaaGreat
