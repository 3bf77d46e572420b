/- The walks of package queue's functions. -/
import Derived.Test.YtcmbibdpopoaaaaProg
import Derived.WalkKit
import Derived.WalkSpells
import Derived.WalkLawsBesides
import Derived.BigQuiet
import Derived.Deep.QuietTactic
namespace Go.Proofs.Ytcmbibdpopoaaaa
set_option linter.unusedVariables false
set_option linter.unusedSimpArgs false
open Go.RowKit

def rightB (n : Nat) (c : Int) : Bool := decide (1 ≤ c ∧ c ≤ 65536 ∧ (n : Int) ≤ c)

set_option maxHeartbeats 400000 in
theorem right_any (b : ByteArray) (c : Int) (w : World) :
    Calls Try.prog 11 #[.agg #[.string b, .int .i64 c]] w fun e w' => e = .returned (.bool (rightB b.size c)) ∧ Below w.heap.size w w' := by
  go_enter Try.func11, Try.ntmps11
  go_wp2
  all_goals (go_ret; refine ⟨?_, (Below.refl _ _).alloc (Nat.le_refl _) _⟩)
  all_goals (simp [rightB]; try omega)
  have h1 : decide (1 ≤ c) = true := by simpa using ‹1 ≤ c›
  have h2 : decide (c ≤ 65536) = true := by simpa using ‹c ≤ 65536›
  simp [h1, h2]

set_option maxHeartbeats 400000 in
theorem refright_any (b : ByteArray) (c : Int) (w : World) :
    Calls Try.prog 10 #[.agg #[.string b, .int .i64 c]] w fun e w' => e = .returned (.bool (rightB b.size c)) ∧ Below w.heap.size w w' := by
  go_enter Try.func10, Try.ntmps10
  go_wp2
  all_goals (go_ret; refine ⟨?_, (Below.refl _ _).alloc (Nat.le_refl _) _⟩)
  all_goals (simp [rightB]; try omega)
  have h0 : 0 < c := ‹0 < c›
  have h1 : decide (1 ≤ c) = true := by simp; omega
  have h2 : decide (c ≤ 65536) = true := by simpa using ‹c ≤ 65536›
  simp [h1, h2]

set_option maxHeartbeats 400000 in
theorem ask_no (b : ByteArray) (c : Int) (fv : Value) (w : World) (h : rightB b.size c = false) :
    Calls Try.prog 20 #[.agg #[.string b, .int .i64 c], fv] w fun e w' => e = .returned (.tuple #[.int .i64 0, .int .i64 1]) ∧ Below w.heap.size w w' := by
  go_enter Try.func20, Try.ntmps20
  go_wp2_with (go_at_call 11; refine (right_any _ _ _).mono ?_; rintro e w' ⟨rfl, hb⟩; rw [h])
  go_ret2
  refine ⟨rfl, ?_⟩
  exact ((Below.refl _ _).alloc (Nat.le_refl _) _).trans (hb.mono (by simp))

set_option maxHeartbeats 400000 in
theorem ask_yes (b : ByteArray) (c : Int) (f : FuncId) (fr : Array Value) (w : World) (h : rightB b.size c = true) (x y : Int)
    (hf : ∀ w1, Sem.run Try.prog (callFunc f fr) w1 = .ok (.enter f fr) w1)
    (hcl : ∀ w1, Below w.heap.size w w1 → Calls Try.prog f fr w1 fun e w2 => e = .returned (.tuple #[.int .i64 x, .int .i64 y]) ∧ Below w1.heap.size w1 w2) :
    Calls Try.prog 20 #[.agg #[.string b, .int .i64 c], .func (.func f) #[] fr] w fun e w' => e = .returned (.tuple #[.int .i64 x, .int .i64 y]) ∧ Below w.heap.size w w' := by
  have HC : Hid (∀ w1, Below w.heap.size w w1 → Calls Try.prog f fr w1 fun e w2 => e = .returned (.tuple #[.int .i64 x, .int .i64 y]) ∧ Below w1.heap.size w1 w2) := hcl
  clear hcl
  go_enter Try.func20, Try.ntmps20
  go_wp2_with fail
  refine (right_any _ _ _).mono ?_
  rintro e w' ⟨rfl, hb⟩
  rw [h]
  have hb' : Below w.heap.size w w' := ((Below.refl _ _).alloc (Nat.le_refl _) _).trans (hb.mono (by simp))
  go_wp2_with fail
  refine (HC.out _ hb').mono ?_
  rintro e w2 ⟨rfl, hb2⟩
  go_wp2_with fail
  go_ret2
  refine ⟨rfl, hb'.trans (hb2.mono hb'.size)⟩

theorem cf21 (a : Array Value) (w1 : World) : Sem.run Try.prog (callFunc 21 a) w1 = .ok (.enter 21 a) w1 := by kernel_rfl

set_option maxHeartbeats 400000 in
theorem room1 (a : Nat) (b : ByteArray) (c : Int) (w : World) (hb : b.size ≤ 65536) (hc : 0 ≤ c ∧ c ≤ 65536) (h0 : w.cell? ⟨a, 0, none⟩ = some (.string b)) (h1 : w.cell? ⟨a, 1, none⟩ = some (.int .i64 c)) :
    Calls Try.prog 21 #[.pointer (some ⟨a, 0, none⟩)] w fun e w' => e = .returned (.tuple #[.int .i64 (c - b.size), .int .i64 0]) ∧ Below w.heap.size w w' := by
  go_enter Try.func21, Try.ntmps21
  go_wp2
  go_ret2
  exact ⟨rfl, Below.refl _ _⟩

theorem rightB_true {n : Nat} {c : Int} (h : rightB n c = true) : 1 ≤ c ∧ c ≤ 65536 ∧ (n : Int) ≤ c := by simpa [rightB] using h
theorem rightB_false {n : Nat} {c : Int} (h : rightB n c = false) : ¬ (1 ≤ c ∧ c ≤ 65536 ∧ (n : Int) ≤ c) := by
  intro hh; simp [rightB, hh] at h

set_option maxHeartbeats 400000 in
theorem room_any (b : ByteArray) (c : Int) (w : World) :
    Calls Try.prog 12 #[.agg #[.string b, .int .i64 c]] w fun e w' => e = .returned (.int .i64 (if rightB b.size c then c - b.size else 0)) ∧ Below w.heap.size w w' := by
  cases h : rightB b.size c with
  | false =>
    have H : Hid (rightB b.size c = false) := h
    clear h
    go_enter Try.func12, Try.ntmps12
    go_wp2_with fail
    refine (ask_no _ _ _ _ H.out).mono ?_
    rintro e w1 ⟨rfl, hb1⟩
    go_wp2_with fail
    go_ret
    refine ⟨by simp, ((Below.refl _ _).alloc (Nat.le_refl _) _).trans (hb1.mono (by simp))⟩
  | true =>
    obtain ⟨r1, r2, r3⟩ := rightB_true h
    have H : Hid (rightB b.size c = true) := h
    clear h
    go_enter Try.func12, Try.ntmps12
    go_wp2_with fail
    refine (ask_yes _ _ _ _ _ H.out (c - b.size) 0 (cf21 _) ?_).mono ?_
    · intro w1 hw1
      refine room1 _ b c w1 (by omega) ⟨by omega, by omega⟩ ?_ ?_
      · exact (hw1.cell (p := ⟨w.heap.size, 0, none⟩) (by simp)).trans (by simp)
      · exact (hw1.cell (p := ⟨w.heap.size, 1, none⟩) (by simp)).trans (by simp)
    rintro e w1 ⟨rfl, hb1⟩
    go_wp2_with fail
    go_ret
    refine ⟨by simp, ((Below.refl _ _).alloc (Nat.le_refl _) _).trans (hb1.mono (by simp))⟩

end Go.Proofs.Ytcmbibdpopoaaaa
