/- The walks of what finds the end of quotes, and of the document's own small functions. -/
import Derived.Test.YtjegoceebdiaaaaDoorWc
namespace Go.Proofs.YtjegoceebdiaaaaDoor
set_option linter.unusedVariables false
set_option linter.unusedSimpArgs false
open Go.RowKit

theorem u8_int {c : UInt8} {n : Nat} (h : c.toNat = n) : (c.toNat : Int) = (n : Int) := by rw [h]
theorem u8_eq_int {c d : UInt8} (h : c = d) : (c.toNat : Int) = (d.toNat : Int) := by rw [h]
theorem u8_ne_int {c d : UInt8} (h : c ≠ d) : ¬ (c.toNat : Int) = (d.toNat : Int) := fun e => h (UInt8.toNat_inj.1 (by omega))
theorem u8_beq (c d : UInt8) : ((c.toNat : Int) == (d.toNat : Int)) = decide (c = d) := by
  by_cases h : c = d
  · simp [h]
  · have := u8_ne_int h
    simp [h, this]
theorem u8_bne (c d : UInt8) : ((c.toNat : Int) != (d.toNat : Int)) = !decide (c = d) := by rw [← u8_beq]; rfl

def clS (s : ByteArray) (k : Nat) : Nat := cl s.data.toList k
theorem clS_le (s : ByteArray) (k : Nat) : clS s k ≤ s.size := by rw [← size_list]; exact cl_le _

theorem ret_bool {a b : Bool} (h : a = b) : Ending.returned (.bool a) = .returned (.bool b) := by rw [h]

def signS : ByteArray := ⟨#[33, 35, 36, 37, 38, 39, 42, 43, 45, 46, 94, 95, 124, 126]⟩
theorem signS_list : signS.data.toList = signL := rfl
theorem signS_size : signS.size = 14 := rfl

end Go.Proofs.YtjegoceebdiaaaaDoor
