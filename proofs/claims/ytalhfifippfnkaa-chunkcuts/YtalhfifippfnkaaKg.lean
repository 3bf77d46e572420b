/- The walk of the statements' own question whether anything answers. -/
import Derived.Test.YtalhfifippfnkaaKf
import Derived.Test.YtalhfifippfnkaaMe
namespace Go.Proofs.Ytalhfifippfnkaa
set_option linter.unusedVariables false
set_option linter.unusedSimpArgs false
open Go.RowKit

theorem fd_zero (l : List UInt8) : fd k0 l = run k0 l := by unfold fd; rw [if_pos ((rt_good k0).2 good0)]

/-- The value that nothing was read yet. -/
theorem feed_zero (s : ByteArray) (w : World) (hs : s.size ≤ 1000000) :
    Calls Try.prog 5 #[.agg #[.int .i64 0, .string ⟨#[]⟩, .int .i64 0, .int .i64 0], .string s] w fun e w' => e = .returned (fdV k0 s.data.toList) ∧ Below w.heap.size w w' :=
  feed_any k0 s w (by decide) hs

theorem alive_v : fdV k0 (⟨#[51, 13, 10, 97, 98, 99, 13, 10, 48, 13, 10, 13, 10]⟩ : ByteArray).data.toList = .tuple #[.agg #[.int .i64 4, .string ⟨#[]⟩, .int .i64 0, .int .i64 3], .string ⟨#[97, 98, 99]⟩, .int .i64 13, .int .i64 0] := by
  rw [show (⟨#[51, 13, 10, 97, 98, 99, 13, 10, 48, 13, 10, 13, 10]⟩ : ByteArray).data.toList = [51, 13, 10, 97, 98, 99, 13, 10, 48, 13, 10, 13, 10] from rfl, fdV_good ((fd_zero _).trans run_alive)]
  rfl

set_option maxRecDepth 100000 in
set_option maxHeartbeats 1000000 in
theorem alive_any (w : World) : Calls Try.prog 6 #[] w fun e w' => e = .returned (.bool true) ∧ Below w.heap.size w w' := by
  have hf := fun w => feed_zero ⟨#[51, 13, 10, 97, 98, 99, 13, 10, 48, 13, 10, 13, 10]⟩ w (by decide)
  rw [alive_v] at hf
  go_enter Try.func6, Try.ntmps6
  go_wp2_with fail
  refine (hf _).mono ?_
  rintro e w1 ⟨rfl, hb1⟩
  go_wp2_with fail
  go_ret
  exact ⟨rfl, hb1.alloc hb1.size _⟩

end Go.Proofs.Ytalhfifippfnkaa
