/- A text is parted at its slashes: the library's Split at this program. -/
import Derived.Test.YtjegoceebdiaaaaDoorSp
import Derived.Test.YtjegoceebdiaaaaDoorMs
import Derived.Lib.IndexBytes
namespace Go.Proofs.YtjegoceebdiaaaaDoor
set_option linter.unusedVariables false
set_option linter.unusedSimpArgs false
open Go.RowKit

theorem index_any (s : ByteArray) (w : World) : Calls Tryd.prog 67 #[.string s, .string ⟨#[47]⟩] w fun e w' => e = .returned (.int .i64 (Lib.indexB s ⟨#[47]⟩)) ∧ w' = w := by
  refine (Tryd.strings_Index_one s 47 w).mono fun e w' ⟨he, hw⟩ => ⟨?_, hw⟩
  rw [he, ← Lib.index_one]
theorem count_any (s : ByteArray) (w : World) : Calls Tryd.prog 66 #[.string s, .string ⟨#[47]⟩] w fun e w' => e = .returned (.int .i64 (Lib.countB s ⟨#[47]⟩)) ∧ w' = w := by
  refine (Tryd.strings_Count_one s 47 w).mono fun e w' ⟨he, hw⟩ => ⟨?_, hw⟩
  rw [he]
  show _ = Ending.returned (Value.int .i64 ((Lib.count s.data.toList [47] : Nat) : Int))
  rw [Lib.count_one]
  rfl

set_option maxRecDepth 100000 in
set_option maxHeartbeats 1000000 in
theorem split_any (s : ByteArray) (w : World) (hs : s.size ≤ 1000) :
    Calls Tryd.prog 20 #[.string s, .string ⟨#[47]⟩] w fun e w' =>
      e = .returned (.slice (some ⟨w.heap.size, 0, none⟩) ((steps s).length) ((steps s).length)) ∧ w' = w.alloc (.cells ((steps s).map Value.string).toArray 9) := by
  have h1 : 1 ≤ (⟨#[47]⟩ : ByteArray).size := by decide
  have hle := Lib.countB_le ⟨#[47]⟩ h1 s.size s (Nat.le_refl _)
  have c : Calls Tryd.prog 41 #[.string s, .string ⟨#[47]⟩, .int .i64 (0 : Nat), .int .i64 (-1)] w _ :=
    Any.strings_genSplit_core Tryd.lays221 (by kernel_rfl) s ⟨#[47]⟩ 0 (-1) (Lib.countB s ⟨#[47]⟩ + 1) w (by omega) h1 (Nat.zero_le _) (fun x c _ => index_any x _) (count_any s w) (by decide) (by decide) (by rw [if_pos (by decide)]; omega)
  rw [Nat.add_sub_cancel, show Lib.splitB ⟨#[47]⟩ 0 (Lib.countB s ⟨#[47]⟩) s = steps s from rfl, ← steps_len, Lib.cellsOf_full] at c
  clear hle h1
  go_enter Tryd.func20, Tryd.ntmps20
  go_wp2_with fail
  refine c.mono ?_
  rintro e w1 ⟨rfl, rfl⟩
  go_wp2_with fail
  go_ret
  exact ⟨rfl, rfl⟩

end Go.Proofs.YtjegoceebdiaaaaDoor
