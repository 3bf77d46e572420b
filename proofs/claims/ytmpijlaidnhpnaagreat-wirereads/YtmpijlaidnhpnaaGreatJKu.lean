/- The walks of the functions that tell digits. The walks of the reading functions. -/
import Derived.Test.YtmpijlaidnhpnaaGreatProg
import Derived.Test.YtmpijlaidnhpnaaGreatJHm
import Derived.Test.YtmpijlaidnhpnaaGreatJMa
namespace Go.Proofs.YtmpijlaidnhpnaaGreat.Ck
set_option linter.unusedVariables false
set_option linter.unusedSimpArgs false
set_option maxRecDepth 100000
open Go.RowKit

theorem ret_int {k : IntKind} {a b : Int} (h : a = b) : Ending.returned (.int k a) = .returned (.int k b) := by rw [h]
theorem ret_str {a b : ByteArray} (h : a = b) : Ending.returned (.string a) = .returned (.string b) := by rw [h]
theorem ret_bool {a b : Bool} (h : a = b) : Ending.returned (.bool a) = .returned (.bool b) := by rw [h]

set_option maxHeartbeats 400000 in
theorem worth_any (c : UInt8) (w : World) :
    Calls Tryz.prog 163 #[.int .u8 (c.toNat : Int)] w fun e w' => e = .returned (.int .u8 (vl c : Nat)) ∧ w' = w := by
  have hc := c.toNat_lt
  go_enter Tryz.func163, Tryz.ntmps163
  go_wp2
  all_goals (go_ret; refine ⟨ret_int ?_, rfl⟩)
  all_goals (unfold vl; split <;> (try split) <;> (try split) <;> omega)

/-- What a byte is worth to the document's answer: 99 for none. -/
def vr (c : UInt8) : Nat := if vl c < 16 then vl c else 99

theorem vr_lt (c : UInt8) (b : Nat) (hb : b ≤ 16) : vr c < b ↔ vl c < b := by
  have := vl_le c
  unfold vr; split <;> omega
theorem vr_of {c : UInt8} {b : Nat} (hb : b ≤ 16) (h : vl c < b) : vr c = vl c := by unfold vr; rw [if_pos (by omega)]
theorem vr_le (c : UInt8) : vr c ≤ 99 := by unfold vr; split <;> omega

set_option maxHeartbeats 400000 in
theorem tells_u (c : UInt8) (a : Nat) (b : Nat) (w : World) (h : w.cell? ⟨a, 0, none⟩ = some (.int .u64 (b : Int))) :
    Calls Tryz.prog 162 #[.int .u8 (c.toNat : Int), .pointer (some ⟨a, 0, none⟩)] w fun e w' => e = .returned (.tuple #[.int .u64 (vl c : Nat), .bool (decide (vl c < b))]) ∧ ∃ n, w' = w.drewN n := by
  have hc := c.toNat_lt
  have hv := vl_le c
  go_enter Tryz.func162, Tryz.ntmps162
  go_wp2_with (go_at_call 163; refine (worth_any _ _).mono ?_; rintro e w' ⟨rfl, rfl⟩)
  go_quiet (fail)
  go_wp2
  go_ret2
  exact ⟨rfl, nq, rfl⟩

end Go.Proofs.YtmpijlaidnhpnaaGreat.Ck

namespace Go.Proofs.YtmpijlaidnhpnaaGreat.Ck
set_option linter.unusedVariables false
set_option linter.unusedSimpArgs false
set_option maxRecDepth 100000
open Go.RowKit

theorem ret_two {k1 k2 : IntKind} {a b c d : Int} (h : a = b) (g : c = d) : Ending.returned (.tuple #[.int k1 a, .int k2 c]) = .returned (.tuple #[.int k1 b, .int k2 d]) := by rw [h, g]

set_option maxHeartbeats 1000000 in
theorem read_u16 (s : ByteArray) (a : Nat) (w : World) (hs : s.size ≤ maxLen) (h : w.cell? ⟨a, 0, none⟩ = some (.int .u64 16)) :
    Calls Tryz.prog 154 #[.string s, .int .u64 16, .func (.func 162) #[] #[.pointer (some ⟨a, 0, none⟩)]] w fun e w' => e = .returned (.tuple #[.int .u64 (rdN 16 s.data.toList : Nat), .int .i64 (rdE 16 s.data.toList : Nat)]) ∧ ∃ n, w' = w.drewN n := by
  unfold maxLen at hs
  have HZ : Hid (s.data.toList.length = s.size) := by unfold Hid; simp
  by_cases h0 : s.data.toList = []
  · have he := empty_of h0
    have H0 : Hid (s.data.toList = []) := h0
    clear h0
    go_enter Tryz.func154, Tryz.ntmps154
    go_wp2
    go_ret2
    exact ⟨ret_two (by rw [rdN_bad (Or.inl H0.out)]; rfl) (by rw [rdE_bad (Or.inl H0.out)]; rfl), 0, by simp [World.drewN]⟩
  · have he := empty_not h0
    have H0 : Hid (s.data.toList ≠ []) := h0
    clear h0
    go_enter Tryz.func154, Tryz.ntmps154
    go_wp2
    go_loopw [8, 16] (fun n i wr => ∃ k t : Nat, k ≤ s.size ∧ i = .int .i64 k ∧ n = .int .u64 (cap 16 (s.data.toList.take k) : Nat) ∧ Hid (okay 16 (s.data.toList.take k) = true) ∧ wr = w.drewN t) (fun _ i _ => s.size - (intOf i).toNat)
    case atStart => exact ⟨0, 0, Nat.zero_le _, rfl, by simp [cap_nil], by simp [Hid, okay], by simp [World.drewN]⟩
    case round =>
      obtain ⟨k, t, hk, rfl, rfl, hok, rfl⟩ := hrel
      have hcap := cap_le 16 (s.data.toList.take k)
      by_cases hlt : k < s.size
      · have hv := vl_le s[k]
        have HT : Hid (s.data.toList.take (k + 1) = s.data.toList.take k ++ [s[k]]) := by
          unfold Hid; rw [take_snoc _ k (by rw [HZ.out]; exact hlt), get_at s k hlt]
        have hcell : (w.drewN t).cell? ⟨a, 0, none⟩ = some (.int .u64 16) := by rw [World.cell?_drewN]; exact h
        by_cases hd : vl s[k] < 16
        · have HC : Hid (cap 16 (s.data.toList.take (k + 1)) = min (cap 16 (s.data.toList.take k) * 16 + vl s[k]) 1099511627777) := by
            unfold Hid; rw [HT.out, cap_snoc 16 (by omega)]
          go_wp2_with fail
          refine (tells_u s[k] a 16 _ hcell).mono ?_
          rintro e w2 ⟨rfl, t2, rfl⟩
          rw [decide_eq_true hd]
          go_wp2
          refine ⟨⟨k + 1, t + t2, by omega, by go_num, ?_, ?_, rfl⟩, by simp [intOf]; omega⟩
          · rw [HC.out]; congr 1; split <;> omega
          · unfold Hid; rw [HT.out, okay_snoc, hok.out, decide_eq_true hd]; rfl
        · go_wp2_with fail
          refine (tells_u s[k] a 16 _ hcell).mono ?_
          rintro e w2 ⟨rfl, t2, rfl⟩
          rw [decide_eq_false hd]
          go_wp2
          go_ret2
          have hf : okay 16 s.data.toList = false := okay_at_false (k := k) (by rw [HZ.out]; exact hlt) (by rw [get_at s k hlt]; exact hd)
          exact ⟨ret_two (by rw [rdN_bad (Or.inr hf)]; rfl) (by rw [rdE_bad (Or.inr hf)]; rfl), t + t2, rfl⟩
      · have HK : Hid (s.data.toList.take k = s.data.toList) := by
          unfold Hid; rw [List.take_of_length_le (by rw [HZ.out]; omega)]
        rw [HK.out] at hok
        by_cases hg : 1099511627776 < cap 16 (s.data.toList.take k)
        · go_wp2
          go_ret2
          rw [HK.out, cap_gt] at hg
          exact ⟨ret_two (by rw [rdN_long hg]; rfl) (by rw [rdE_long H0.out hok.out hg]; rfl), t, rfl⟩
        · go_wp2
          go_ret2
          rw [HK.out, cap_gt] at hg
          exact ⟨ret_two (by rw [rdN_fine H0.out hok.out hg, HK.out, cap_eq _ _ hg]) (by rw [rdE_fine H0.out hok.out hg]; rfl), t, rfl⟩

end Go.Proofs.YtmpijlaidnhpnaaGreat.Ck
