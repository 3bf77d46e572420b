/- The walk of what a device says that it can. -/
import Derived.Test.YtkakinakjnpbjaaDoorBf
namespace Go.Proofs.YtkakinakjnpbjaaDoor
set_option linter.unusedVariables false
set_option linter.unusedSimpArgs false
open Go.RowKit

/-- What a device says that it can, behind what others say. -/
def oneS (d : ByteArray) : ByteArray := d ++ ⟨#[61, 34, 69, 83, 73, 47, 49, 46, 48, 34]⟩
def canS (s d : ByteArray) : ByteArray := if (trimS s).toList.isEmpty then oneS d else trimS s ++ ⟨#[44, 32]⟩ ++ oneS d
theorem one_is (d : ByteArray) : d ++ (⟨#[61, 34]⟩ : ByteArray) ++ (⟨#[69, 83, 73, 47, 49, 46, 48]⟩ : ByteArray) ++ (⟨#[34]⟩ : ByteArray) = oneS d := by
  unfold oneS
  apply bytes_ext
  simp

set_option maxHeartbeats 2000000 in
theorem can_any (s d : ByteArray) (w : World) (hs : s.size ≤ 1000) (hd : d.size ≤ 1000) :
    Calls Tryd.prog 16 #[.string s, .string d] w fun e w' => e = .returned (.tuple #[.string (if tokB d then canS s d else ⟨#[]⟩), .int .i64 ((if tokB d then 0 else 11 : Nat) : Int)]) ∧ Below w.heap.size w w' := by
  have HO : Hid (d ++ (⟨#[61, 34]⟩ : ByteArray) ++ (⟨#[69, 83, 73, 47, 49, 46, 48]⟩ : ByteArray) ++ (⟨#[34]⟩ : ByteArray) = oneS d) := one_is d
  have hts := trimS_size s
  have HC : Hid (canS s d = if (trimS s).toList.isEmpty then oneS d else trimS s ++ ⟨#[44, 32]⟩ ++ oneS d) := rfl
  cases ht : tokB d
  · go_enter Tryd.func16, Tryd.ntmps16
    go_wp2_with fail
    refine (token_any d w (by omega)).mono ?_
    rintro e w1 ⟨rfl, hb1⟩
    rw [ht]
    go_wp2_with fail
    go_ret2
    exact ⟨rfl, hb1⟩
  · go_enter Tryd.func16, Tryd.ntmps16
    go_wp2_with fail
    refine (token_any d w (by omega)).mono ?_
    rintro e w1 ⟨rfl, hb1⟩
    rw [ht]
    go_wp2_with fail
    refine (trim_any s w1 (by omega)).mono ?_
    rintro e w2 ⟨rfl, hb2⟩
    have hB2 := hb1.trans (hb2.mono hb1.size)
    generalize trimS s = t at *
    cases he : t.toList.isEmpty
    · rw [he, if_neg (by decide)] at HC
      go_wp2_with fail
      go_ret2
      exact ⟨by rw [HC.out, ← HO.out]; rfl, hB2⟩
    · rw [he, if_pos rfl] at HC
      go_wp2_with fail
      go_ret2
      exact ⟨by rw [HC.out, ← HO.out]; rfl, hB2⟩

end Go.Proofs.YtkakinakjnpbjaaDoor
