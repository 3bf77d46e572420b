/- The walks of the functions that tell digits. -/
import Derived.Test.YtmpijlaidnhpnaaGreatProg
import Derived.Test.YtmpijlaidnhpnaaGreatJHm
import Derived.Test.YtmpijlaidnhpnaaGreatJWd
namespace Go.Proofs.YtmpijlaidnhpnaaGreat
set_option linter.unusedVariables false
set_option linter.unusedSimpArgs false
set_option maxRecDepth 100000
open Go.RowKit

set_option maxHeartbeats 400000 in
theorem worth_any (c : UInt8) (w : World) :
    Calls Tryz.prog 163 #[.int .u8 (c.toNat : Int)] w fun e w' => e = .returned (.int .u8 (vl c : Nat)) ∧ w' = w := by
  have hc := c.toNat_lt
  go_enter Tryz.func163, Tryz.ntmps163
  go_wp2
  all_goals (go_ret; refine ⟨ret_int ?_, rfl⟩)
  all_goals (unfold vl; split <;> (try split) <;> (try split) <;> omega)

/-- What a byte is worth to the document's answer: 99 for none. -/
def vr (c : UInt8) : Nat := if vl c < 16 then vl c else 99

theorem vr_lt (c : UInt8) (b : Nat) (hb : b ≤ 16) : vr c < b ↔ vl c < b := by
  have := vl_le c
  unfold vr; split <;> omega
theorem vr_of {c : UInt8} {b : Nat} (hb : b ≤ 16) (h : vl c < b) : vr c = vl c := by unfold vr; rw [if_pos (by omega)]
theorem vr_le (c : UInt8) : vr c ≤ 99 := by unfold vr; split <;> omega

set_option maxHeartbeats 400000 in
theorem tells_u (c : UInt8) (a : Nat) (b : Nat) (w : World) (h : w.cell? ⟨a, 0, none⟩ = some (.int .u64 (b : Int))) :
    Calls Tryz.prog 162 #[.int .u8 (c.toNat : Int), .pointer (some ⟨a, 0, none⟩)] w fun e w' => e = .returned (.tuple #[.int .u64 (vl c : Nat), .bool (decide (vl c < b))]) ∧ ∃ n, w' = w.drewN n := by
  have hc := c.toNat_lt
  have hv := vl_le c
  go_enter Tryz.func162, Tryz.ntmps162
  go_wp2_with (go_at_call 163; refine (worth_any _ _).mono ?_; rintro e w' ⟨rfl, rfl⟩)
  go_quiet (fail)
  go_wp2
  go_ret2
  exact ⟨rfl, nq, rfl⟩

end Go.Proofs.YtmpijlaidnhpnaaGreat
