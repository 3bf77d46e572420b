/- The walk of the head that is known, and small facts for the laws' walks. -/
import Derived.Test.YteeipaijdoneeaaPs
import Derived.Test.YteeipaijdoneeaaPr
import Derived.Test.YteeipaijdoneeaaWw
namespace Go.Proofs.Yteeipaijdoneeaa
set_option linter.unusedVariables false
set_option linter.unusedSimpArgs false
open Go.RowKit

theorem alive_ps : psU (⟨#[97, 58, 32, 49, 13, 10, 98, 58, 50, 10]⟩ : ByteArray).data.toList = ([(⟨#[97]⟩, ⟨#[49]⟩), (⟨#[98]⟩, ⟨#[50]⟩)], 0) := by decide +kernel

set_option maxRecDepth 100000 in
set_option maxHeartbeats 2000000 in
theorem alive_any (w : World) : Calls Try.prog 15 #[] w fun e w' => e = .returned (.bool true) ∧ Below w.heap.size w w' := by
  have HP := hide (parse_any ⟨#[97, 58, 32, 49, 13, 10, 98, 58, 50, 10]⟩)
  rw [alive_ps] at HP
  go_enter Try.func15, Try.ntmps15
  go_wp2_with fail
  refine (HP.out w (by decide)).mono ?_
  rintro e w1 ⟨v, rfl, hrow, hb⟩
  obtain ⟨a, cap, rfl, hcap, hR⟩ := hrow
  obtain ⟨g, off, rfl, hg, c0, c1⟩ := hR 1 (by decide)
  simp only [List.getElem_cons_succ, List.getElem_cons_zero, Nat.one_mul, List.length_cons, List.length_nil, Nat.zero_add, Nat.reduceAdd] at c0 c1 hcap ⊢
  clear hR
  go_wp2_with fail
  go_ret
  exact ⟨rfl, hb⟩

theorem short_ok {M : List Fd} (h : ∀ f ∈ M, f.1.size ≤ 60 ∧ f.2.size ≤ 1010) : Sh M := fun f hf => by have := h f hf; omega
theorem ps_sh (l : List UInt8) : Sh (psU l).1 := fun f hf => by have := (ps_all l).2.2.2 f hf; omega
theorem prS_size (M : List Fd) : (prS M).size ≤ 4000 := by
  unfold prS
  split
  · split
    · decide
    · rw [bs_size]; omega
  · decide
theorem pr_codes (M : List Fd) : prE M = 0 ∨ prE M = 1 ∨ prE M = 2 := by
  unfold prE
  split
  · split <;> simp
  · simp
/-- What is written is read again, as texts. -/
theorem ps_pr {M : List Fd} (h : prE M = 0) : psU (prS M).data.toList = (M, 0) := by
  obtain ⟨h1, h2, h3⟩ := pr_ok h
  rw [h3, bs_list]
  exact ps_wr h1 h2
theorem below_start {w w1 : World} (h : Below w.drew.heap.size w.drew w1) : Below w.heap.size w w1 := (Below.refl w.heap.size w).drew.trans h

end Go.Proofs.Yteeipaijdoneeaa
