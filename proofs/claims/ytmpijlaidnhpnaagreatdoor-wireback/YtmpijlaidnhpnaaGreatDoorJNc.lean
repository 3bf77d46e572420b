/- The walks of ReadDec, ReadHex, Signed, and of the document's own readings. The walks of the document's own readings. -/
import Derived.Test.YtmpijlaidnhpnaaGreatDoorJNb
import Derived.Test.YtmpijlaidnhpnaaGreatDoorJShelf
namespace Go.Proofs.YtmpijlaidnhpnaaGreatDoor
set_option linter.unusedVariables false
set_option linter.unusedSimpArgs false
set_option maxRecDepth 100000
open Go.RowKit

theorem below_drewM (w : World) (n : Nat) : Below w.heap.size w (w.drewN n) := ⟨rfl, rfl, rfl, Nat.le_refl _, fun _ _ => rfl⟩

set_option maxHeartbeats 400000 in
theorem below_u (b : Nat) (w : World) :
    Calls Tryz.prog 171 #[.int .u64 (b : Int)] w fun e w' => e = .returned (.func (.func 176) #[] #[.pointer (some ⟨w.heap.size, 0, none⟩)]) ∧ w' = w.alloc (.cells #[.int .u64 (b : Int)] 75) := by
  go_enter Tryz.func171, Tryz.ntmps171
  go_wp2
  go_ret
  exact ⟨rfl, rfl⟩

set_option maxHeartbeats 400000 in
theorem readDec_any (s : ByteArray) (w : World) (hs : s.size ≤ maxLen) :
    Calls Tryz.prog 165 #[.string s] w fun e w' => e = .returned (.tuple #[.int .u64 (rdN 10 s.data.toList : Nat), .int .i64 (rdE 10 s.data.toList : Nat)]) ∧ Below w.heap.size w w' := by
  go_enter Tryz.func165, Tryz.ntmps165
  go_wp2_with fail
  refine (below_u 10 _).mono ?_
  rintro e w1 ⟨rfl, rfl⟩
  go_wp2_with fail
  refine (read_u10 s _ _ hs (by simp)).mono ?_
  rintro e w2 ⟨rfl, n, rfl⟩
  go_wp2_with fail
  go_ret2
  exact ⟨rfl, ((Below.refl _ _).alloc (Nat.le_refl _) _).trans ((below_drewM _ n).mono (by simp))⟩

end Go.Proofs.YtmpijlaidnhpnaaGreatDoor

namespace Go.Proofs.YtmpijlaidnhpnaaGreatDoor
set_option linter.unusedVariables false
set_option linter.unusedSimpArgs false
set_option maxRecDepth 100000
open Go.RowKit

theorem head_minus (s : ByteArray) (h : 0 < s.size) : s.data.toList.head? = some s[0] := by
  rw [List.head?_eq_getElem?, List.getElem?_eq_getElem (by simpa using h), get_at s 0 h]

end Go.Proofs.YtmpijlaidnhpnaaGreatDoor
