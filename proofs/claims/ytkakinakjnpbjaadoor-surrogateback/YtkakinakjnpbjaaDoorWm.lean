/- The walks of TextWords, TextSplits and TextQuotes. -/
import Derived.Test.YtkakinakjnpbjaaDoorWl
namespace Go.Proofs.YtkakinakjnpbjaaDoor
set_option linter.unusedVariables false
set_option maxRecDepth 100000
set_option linter.unusedSimpArgs false
open Go.RowKit

theorem same_low (s : ByteArray) : sameB s (lowS s) = true := by
  unfold sameB
  rw [show lowS (lowS s) = lowS s from bytes_ext (by rw [lowS_list, lowS_list, lowL_twice])]
  simp

theorem parts_le (b : UInt8) : ∀ (l : List UInt8) (st : Nat) (acc : List UInt8) (P : List (List UInt8)), sp b st acc l = some P → P.length ≤ l.length + 1
  | [], st, acc, P, h => by
    rw [sp] at h
    split at h
    · obtain rfl := Option.some.inj h; simp
    · cases h
  | c :: r, 0, acc, P, h => by
    rw [sp] at h
    split at h
    · cases hr : sp b 0 [] r with
      | none => rw [hr] at h; cases h
      | some Q =>
        rw [hr] at h
        obtain rfl := Option.some.inj h
        have := parts_le b r 0 [] Q hr
        simp; omega
    · split at h
      · have := parts_le b r 1 _ P h; simp; omega
      · have := parts_le b r 0 _ P h; simp; omega
  | c :: r, 1, acc, P, h => by
    rw [sp] at h
    split at h
    · have := parts_le b r 0 _ P h; simp; omega
    · split at h
      · have := parts_le b r 2 _ P h; simp; omega
      · have := parts_le b r 1 _ P h; simp; omega
  | c :: r, n + 2, acc, P, h => by
    rw [sp] at h
    · have := parts_le b r 1 _ P h; simp; omega
    · omega
    · omega
theorem spP_le (b : UInt8) (s : ByteArray) : (spP b s).length ≤ s.size + 1 := by
  unfold spP splitL
  split
  · simp
  · cases h : sp b 0 [] s.data.toList with
    | none => simp
    | some P => have := parts_le b _ _ _ _ h; rw [size_list] at this; simpa using this

theorem below_drewN {B : Nat} {a w : World} (h : Below B a w) (n : Nat) : Below B a (w.drewN n) := ⟨h.os, h.tape, h.output, h.size, h.block⟩

end Go.Proofs.YtkakinakjnpbjaaDoor
