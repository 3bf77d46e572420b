/- The walks of the document's cut, its value of a digit, its parts. -/
import Derived.Test.YtgnpeggffeoenaaDoorPb
import Derived.Test.YtgnpeggffeoenaaDoorWl
namespace Go.Proofs.YtgnpeggffeoenaaDoor
set_option linter.unusedVariables false
set_option linter.unusedSimpArgs false
open Go.RowKit

set_option maxRecDepth 100000 in
set_option maxHeartbeats 1000000 in
theorem refcut_any (s : ByteArray) (c : UInt8) (w : World) (hs : s.size ≤ 1000000) :
    Calls Tryd.prog 35 #[.string s, .int .u8 (c.toNat : Int)] w fun e w' => e = .returned (.tuple #[.string (befS c s), .string (aftS c s), .bool (hasB c s)]) ∧ ∃ n, w' = w.drewN n := by
  have HZ : Hid (s.data.toList.length = s.size) := by unfold Hid; simp
  go_enter Tryd.func35, Tryd.ntmps35
  go_wp2_with fail
  go_loop [7] (fun i => ∃ k : Nat, k ≤ s.size ∧ i = .int .i64 k ∧ Hid (∀ x ∈ s.data.toList.take k, neB c x = true)) (fun i => s.size - (intOf i).toNat)
  case atStart => exact ⟨0, Nat.zero_le _, rfl, by simp [Hid]⟩
  case round =>
    obtain ⟨k, hk, rfl, hall⟩ := hrel
    by_cases hlt : k < s.size
    · have hltz : (k : Int) < s.size := by omega
      have hl1 : (k : Int) + 1 ≤ s.size := by omega
      have HT : Hid (s.data.toList.take (k + 1) = s.data.toList.take k ++ [s[k]]) := by
        unfold Hid; rw [take_snoc _ k (by rw [HZ.out]; exact hlt), get_at s k hlt]
      by_cases hb : s[k] = c
      · have hat : atN c s.data.toList = k := takeWhile_at (by rw [HZ.out]; exact hlt) hall.out (by rw [get_at s k hlt, hb]; simp [neB])
        have HB := hide (bef_ext c s)
        have HA := hide (aft_ext c s)
        have HH : Hid (hasB c s = true) := by unfold Hid hasB; rw [hat, HZ.out]; simpa using hlt
        rw [hat] at HB HA
        have hbd : (((s[k]).toNat : Int) == (c.toNat : Int)) = true := by rw [hb]; simp
        clear hat hb HT hall
        go_wp2_with fail
        go_quiet (fail)
        go_wp2_with fail
        go_ret3
        exact ⟨by rw [← HB.out, ← HA.out, HH.out]; rfl, nq, rfl⟩
      · have hbd : (((s[k]).toNat : Int) == (c.toNat : Int)) = false := by
          rw [beq_eq_false_iff_ne]
          intro e
          exact hb (UInt8.toNat_inj.1 (by omega))
        have HB := hide hb
        clear hb
        go_wp2_with fail
        refine ⟨⟨k + 1, by omega, by go_num, ?_⟩, by simp [intOf]; omega⟩
        unfold Hid
        rw [HT.out]
        intro x hx
        rcases List.mem_append.1 hx with hx | hx
        · exact hall.out x hx
        · obtain rfl : x = s[k] := by simpa using hx
          simpa [neB] using HB.out
    · have hd : decide ((k : Int) < s.size) = false := decide_eq_false (by omega)
      rw [List.take_of_length_le (by rw [HZ.out]; omega)] at hall
      have hat : ¬ atN c s.data.toList < s.data.toList.length := by rw [atN_none hall.out]; omega
      have HB := hide (bef_none hat)
      have HA := hide (aft_none hat)
      have HH : Hid (hasB c s = false) := by unfold Hid hasB; simpa using hat
      clear hat hall
      go_wp2_with fail
      go_ret3
      exact ⟨by rw [HB.out, HA.out, HH.out]; rfl, 0, rfl⟩

set_option maxHeartbeats 1000000 in
theorem value_any (c : UInt8) (w : World) :
    Calls Tryd.prog 57 #[.int .u8 (c.toNat : Int)] w fun e w' => e = .returned (.int .i64 (hxN c : Int)) ∧ w' = w := by
  have hc := c.toNat_lt
  have HV : Hid (((48 : Int) ≤ c.toNat ∧ (c.toNat : Int) ≤ 57 ∧ (hxN c : Int) = c.toNat - 48) ∨ ((97 : Int) ≤ c.toNat ∧ (c.toNat : Int) ≤ 102 ∧ (hxN c : Int) = (c.toNat - 97) + 10) ∨ ((65 : Int) ≤ c.toNat ∧ (c.toNat : Int) ≤ 70 ∧ (hxN c : Int) = (c.toNat - 65) + 10) ∨
      (¬ ((48 : Int) ≤ c.toNat ∧ (c.toNat : Int) ≤ 57) ∧ ¬ ((97 : Int) ≤ c.toNat ∧ (c.toNat : Int) ≤ 102) ∧ ¬ ((65 : Int) ≤ c.toNat ∧ (c.toNat : Int) ≤ 70) ∧ (hxN c : Int) = 99)) := by
    unfold Hid hxN
    split
    · left; omega
    · split
      · right; left; omega
      · split
        · right; right; left; omega
        · right; right; right; omega
  generalize hxN c = v at HV ⊢
  go_enter Tryd.func57, Tryd.ntmps57
  go_wp2_with fail
  all_goals go_ret
  all_goals refine ⟨ret_int ?_, rfl⟩
  all_goals (have := HV.out; omega)

end Go.Proofs.YtgnpeggffeoenaaDoor
