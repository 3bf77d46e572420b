/- The walks of the loops that ask a set. -/
import Derived.Test.YtjegoceebdiaaaaWa
namespace Go.Proofs.Ytjegoceebdiaaaa
set_option linter.unusedVariables false
set_option linter.unusedSimpArgs false
open Go.RowKit

/-- The control bytes below k. -/
def ct (k : Nat) : List UInt8 := ((List.range k).filter (fun i => i != 9)).map UInt8.ofNat
theorem ct_zero : ct 0 = [] := rfl
theorem ct_yes {k : Nat} (h : k ≠ 9) : ct (k + 1) = ct k ++ [UInt8.ofNat k] := by
  unfold ct
  rw [List.range_succ, List.filter_append, List.filter_cons, if_pos (by simpa using h), List.map_append]; rfl
theorem ct_no : ct (9 + 1) = ct 9 := by decide
theorem ct_end : ct 32 ++ [127] = ctrlL := by decide
theorem set_same (a : Array Value) (i : Nat) (v : Value) (h : a[i]? = some v) : a.setIfInBounds i v = a := by
  obtain ⟨h1, h2⟩ := Array.getElem?_eq_some_iff.1 h
  apply Array.ext
  · simp
  · intro j h3 h4
    rw [Array.getElem_setIfInBounds]
    split
    · rename_i e; subst e; exact h2.symm
    · rfl
theorem ct_nine : (Lib.setCells (ct 9)).setIfInBounds 9 (.bool false) = Lib.setCells (ct (9 + 1)) := by
  rw [ct_no]
  exact set_same _ _ _ (Lib.setCells_at (ct 9) 9)
theorem ct_store {k : Nat} (h : k ≠ 9) (hk : k < 32) : (Lib.setCells (ct k)).setIfInBounds k (.bool true) = Lib.setCells (ct (k + 1)) := by
  rw [ct_yes h, Lib.setCells_snoc]
  congr 1
  simp; omega
theorem ct_last : (Lib.setCells (ct 32)).setIfInBounds 127 (.bool true) = Lib.setCells ctrlL := by
  rw [← ct_end, Lib.setCells_snoc]; rfl

end Go.Proofs.Ytjegoceebdiaaaa
