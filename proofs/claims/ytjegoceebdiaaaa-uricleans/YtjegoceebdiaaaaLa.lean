/- The walk of UriCleans. -/
import Derived.Test.YtjegoceebdiaaaaCd
namespace Go.Proofs.Ytjegoceebdiaaaa
set_option linter.unusedVariables false
set_option linter.unusedSimpArgs false
open Go.RowKit

theorem alive_clean : cleanS ⟨#[47, 97, 47, 98, 47, 46, 46, 47, 99, 47, 46, 47, 100]⟩ = ⟨#[47, 97, 47, 99, 47, 100]⟩ := by
  have h : cleanL [47, 97, 47, 98, 47, 46, 46, 47, 99, 47, 46, 47, 100] = [47, 97, 47, 99, 47, 100] := by decide +kernel
  unfold cleanS
  show (⟨(cleanL [47, 97, 47, 98, 47, 46, 46, 47, 99, 47, 46, 47, 100]).toArray⟩ : ByteArray) = _
  rw [h]

set_option maxRecDepth 100000 in
set_option maxHeartbeats 1000000 in
theorem alive_any (w : World) : Calls Try.prog 4 #[] w fun e w' => e = .returned (.bool true) ∧ Below w.heap.size w w' := by
  have HE := hide alive_clean
  go_enter Try.func4, Try.ntmps4
  go_wp2_with fail
  refine (clean_any _ w (by decide)).mono ?_
  rintro e w1 ⟨rfl, hb1⟩
  rw [HE.out]
  go_wp2_with fail
  go_ret
  exact ⟨rfl, hb1⟩

set_option maxRecDepth 100000 in
set_option maxHeartbeats 1000000 in
theorem cleans_walk (s : ByteArray) (w : World) (hs : s.size ≤ maxLen) :
    Calls Try.prog 3 #[.string s] w fun e w' => e = .returned (.bool true) ∧ Below w.heap.size w w' := by
  unfold maxLen at hs
  have hms : (s.extract 0 (min (s.size : Int) 300).toNat).size ≤ 300 := by rw [ByteArray.size_extract]; omega
  go_enter Try.func3, Try.ntmps3
  go_wp2_with fail
  refine (alive_any _).mono ?_
  rintro e w1 ⟨rfl, hb1⟩
  generalize s.extract 0 (min (s.size : Int) 300).toNat = p at hms ⊢
  go_wp2_with fail
  refine (clean_any p _ (by omega)).mono ?_
  rintro e w2 ⟨rfl, hb2⟩
  go_wp2_with fail
  refine (refclean_any p _ (by omega)).mono ?_
  rintro e w3 ⟨rfl, hw3⟩
  subst hw3
  go_wp2_with fail
  go_ret
  exact ⟨by simp, hb1.trans (hb2.mono hb1.size)⟩

end Go.Proofs.Ytjegoceebdiaaaa
