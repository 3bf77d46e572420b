/- The walks of alive and QueueNews. -/
import Derived.Test.YtcmbibdpopoaaaaWb
import Derived.Deep.RegionHeld3
namespace Go.Proofs.Ytcmbibdpopoaaaa
set_option linter.unusedVariables false
set_option linter.unusedSimpArgs false
open Go.RowKit

theorem put_abcd (w : World) :
    Calls Try.prog 14 #[.agg #[.string ⟨#[]⟩, .int .i64 3], .string ⟨#[97, 98, 99, 100]⟩] w fun e w' => e = .returned (.tuple #[.agg #[.string ⟨#[97, 98, 99]⟩, .int .i64 3], .int .i64 3, .int .i64 0]) ∧ Below w.heap.size w w' := by
  refine (put_yes _ _ _ _ (by decide) (by decide)).mono ?_
  rintro e w2 ⟨rfl, hb2⟩
  exact ⟨by rfl, hb2⟩

set_option maxHeartbeats 400000 in
theorem alive_any (w : World) :
    Calls Try.prog 13 #[] w fun e w' => e = .returned (.bool true) ∧ Below w.heap.size w w' := by
  go_enter Try.func13, Try.ntmps13
  go_wp2_with fail
  refine (new_yes _ _ (by decide)).mono ?_
  rintro e w1 ⟨rfl, hb1⟩
  go_wp2_with fail
  refine (put_abcd _).mono ?_
  rintro e w2 ⟨rfl, hb2⟩
  go_wp2_with fail
  go_ret
  have h1 := hb1.size
  have h2 := hb2.size
  simp at h2
  exact ⟨rfl, ((hb1.alloc h1 _).trans (hb2.mono (by simp; omega))).alloc (by omega) _⟩


theorem keepQ {W0 W w' : World} {N : Nat} {v0 v1 : Value} (hb : Below W.heap.size W w') (h : Below W0.heap.size W0 W ∧ W.cell? ⟨N, 0, none⟩ = some v0 ∧ W.cell? ⟨N, 1, none⟩ = some v1)
    (hN : N < W0.heap.size) : Below W0.heap.size W0 w' ∧ w'.cell? ⟨N, 0, none⟩ = some v0 ∧ w'.cell? ⟨N, 1, none⟩ = some v1 := by
  obtain ⟨h1, h2, h3⟩ := h
  have hN' : N < W.heap.size := Nat.lt_of_lt_of_le hN h1.size
  exact ⟨h1.trans (hb.mono h1.size), (hb.cell (p := ⟨N, 0, none⟩) hN').trans h2, (hb.cell (p := ⟨N, 1, none⟩) hN').trans h3⟩

theorem setq {w1 : World} {N : Nat} {u0 u1 v0 v1 : Value} (c0 : w1.cell? ⟨N, 0, none⟩ = some u0) (c1 : w1.cell? ⟨N, 1, none⟩ = some u1) :
    ((w1.setCell ⟨N, 0, none⟩ v0).setCell ⟨N, 1, none⟩ v1).cell? ⟨N, 0, none⟩ = some v0 ∧ ((w1.setCell ⟨N, 0, none⟩ v0).setCell ⟨N, 1, none⟩ v1).cell? ⟨N, 1, none⟩ = some v1 := by
  refine ⟨by go_simp, by go_simp⟩

set_option maxHeartbeats 1000000 in
theorem queueNews_walk (n : Int) (b : ByteArray) (c : Int) (w : World) (hb : b.size ≤ maxLen) :
    Calls Try.prog 3 #[.int .i64 n, .agg #[.string b, .int .i64 c]] w fun e w' => e = .returned (.bool true) ∧ Below w.heap.size w w' := by
  go_enter Try.func3, Try.ntmps3
  go_wp2_with fail
  refine (few_any _ _ _ hb).mono ?_
  clear hb
  rintro e w1 ⟨b', hb', rfl, hw1⟩
  have hz1 : w.heap.size < w1.heap.size := by have := hw1.size; simp at this; omega
  have hB1 : Below w.heap.size w w1 := ((Below.refl _ _).alloc (Nat.le_refl _) _).trans (hw1.mono (by simp))
  have c0 : w1.cell? ⟨w.heap.size, 0, none⟩ = some (.string b) := (hw1.cell (p := ⟨w.heap.size, 0, none⟩) (by simp)).trans (by go_simp)
  have c1 : w1.cell? ⟨w.heap.size, 1, none⟩ = some (.int .i64 c) := (hw1.cell (p := ⟨w.heap.size, 1, none⟩) (by simp)).trans (by go_simp)
  have f0 : ∀ o, w1.frozen? ⟨w.heap.size, o, none⟩ = false := fun o => (hw1.frozen (p := ⟨w.heap.size, o, none⟩) (by simp)).trans (by go_simp)
  clear hw1
  go_wp2_with fail
  generalize hW : (w1.setCell { block := w.heap.size, off := 0 } (Value.string b')).setCell { block := w.heap.size, off := 1 } (Value.int IntKind.i64 c) = W
  have hBW : Below w.heap.size w W := by rw [← hW]; exact (hB1.setCell (Nat.le_refl _) _).setCell (Nat.le_refl _) _
  have hzW : w.heap.size < W.heap.size := by rw [← hW]; simpa using hz1
  have d0 : W.cell? ⟨w.heap.size, 0, none⟩ = some (.string b') := by rw [← hW]; exact (setq c0 c1).1
  have d1 : W.cell? ⟨w.heap.size, 1, none⟩ = some (.int .i64 c) := by rw [← hW]; exact (setq c0 c1).2
  clear hW c0 c1 f0 hB1 hz1
  obtain ⟨m, er, hme⟩ : ∃ m er : Int, (rightB 0 n = true ∧ m = n ∧ er = 0) ∨ (rightB 0 n = false ∧ m = 0 ∧ er = 1) := by
    cases rightB 0 n
    · exact ⟨0, 1, .inr ⟨rfl, rfl, rfl⟩⟩
    · exact ⟨n, 0, .inl ⟨rfl, rfl, rfl⟩⟩
  have HM : Hid ((rightB 0 n = true ∧ m = n ∧ er = 0) ∨ (rightB 0 n = false ∧ m = 0 ∧ er = 1)) := hme
  clear hme
  have hnew : Hid (∀ W, Calls Try.prog 9 #[.int .i64 n] W fun e w' => e = .returned (.tuple #[.agg #[.string ⟨#[]⟩, .int .i64 m], .int .i64 er]) ∧ Below W.heap.size W w') := by
    intro W
    rcases HM.out with ⟨h1, h2, h3⟩ | ⟨h1, h2, h3⟩
    · subst h2 h3; exact new_yes _ _ h1
    · subst h2 h3; exact new_no _ _ h1
  refine (hnew.out _).mono ?_
  clear hnew
  rintro e w2 ⟨rfl, hw2⟩
  have hB2 : Below w.heap.size w w2 := hBW.trans (hw2.mono hBW.size)
  have hz2 : w.heap.size < w2.heap.size := Nat.lt_of_lt_of_le hzW hw2.size
  have e0 := (hw2.cell (p := ⟨w.heap.size, 0, none⟩) hzW).trans d0
  have e1 := (hw2.cell (p := ⟨w.heap.size, 1, none⟩) hzW).trans d1
  clear hw2 d0 d1 hzW hBW W w1
  go_wp2_with fail
  refine (refright_any _ _ _).mono ?_
  rintro e w3 ⟨rfl, hw3⟩
  have hB3 : Below w.heap.size w w3 := (hB2.alloc hB2.size _).trans (hw3.mono (by simp; omega))
  have hz3 : w2.heap.size < w3.heap.size := by have := hw3.size; simp at this; omega
  have g0 : w3.cell? ⟨w.heap.size, 0, none⟩ = some (.string b') := (hw3.cell (p := ⟨w.heap.size, 0, none⟩) (by simp; omega)).trans (by go_simp)
  have g1 : w3.cell? ⟨w.heap.size, 1, none⟩ = some (.int .i64 c) := (hw3.cell (p := ⟨w.heap.size, 1, none⟩) (by simp; omega)).trans (by go_simp)
  have x0 : w3.cell? ⟨w2.heap.size, 0, none⟩ = some (.string ⟨#[]⟩) := (hw3.cell (p := ⟨w2.heap.size, 0, none⟩) (by simp)).trans (by go_simp)
  have x1 : w3.cell? ⟨w2.heap.size, 1, none⟩ = some (.int .i64 m) := (hw3.cell (p := ⟨w2.heap.size, 1, none⟩) (by simp)).trans (by go_simp)
  clear hw3 e0 e1
  have hN : w.heap.size < w3.heap.size := by omega
  cases hr : rightB b'.size c
  · have HR : Hid (rightB b'.size c = false) := hr
    clear hr
    go_wp2_with fail
    go_region_held3 (fun w' => Below w3.heap.size w3 w' ∧ w'.cell? ⟨w.heap.size, 0, none⟩ = some (.string b') ∧ w'.cell? ⟨w.heap.size, 1, none⟩ = some (.int .i64 c))
        (first | exact ⟨(Below.refl _ _).drew, g0, g1⟩ | exact keepQ (by assumption) (by assumption) hN)
        (first | (go_at_call 11; refine (right_any _ _ _).mono ?_; rintro e w' ⟨rfl, hw'⟩; rw [HR.out]) | (go_at_call 10; refine (refright_any _ _ _).mono ?_; rintro e w' ⟨rfl, hw'⟩; rw [HR.out]) | (go_at_call 12; refine (room_any _ _ _).mono ?_; rintro e w' ⟨rfl, hw'⟩; rw [HR.out, if_neg (by simp)]) | (go_at_call 13; refine (alive_any _).mono ?_; rintro e w' ⟨rfl, hw'⟩))
    rename_i hS
    have hB4 : Below w.heap.size w w' := hB3.trans (hS.1.mono hB3.size)
    have y0 := (hS.1.cell (p := ⟨w2.heap.size, 0, none⟩) hz3).trans x0
    have y1 := (hS.1.cell (p := ⟨w2.heap.size, 1, none⟩) hz3).trans x1
    clear hS g0 g1 x0 x1
    rcases HM.out with ⟨h1, h2, h3⟩ | ⟨h1, h2, h3⟩
    · obtain ⟨q1, q2, q3⟩ := rightB_true h1
      subst h2 h3
      clear h1 HM
      go_wp2_with fail
      go_ret
      exact ⟨rfl, hB4⟩
    · have q := rightB_false h1
      subst h2 h3
      clear h1 HM
      by_cases q1 : n < 1
      · go_wp2_with fail
        go_ret
        exact ⟨rfl, hB4⟩
      · have q2 : 65536 < n := by omega
        go_wp2_with fail
        go_ret
        exact ⟨rfl, hB4⟩
  · obtain ⟨r1, r2, r3⟩ := rightB_true hr
    have HR : Hid (rightB b'.size c = true) := hr
    clear hr
    go_wp2_with fail
    go_region_held3 (fun w' => Below w3.heap.size w3 w' ∧ w'.cell? ⟨w.heap.size, 0, none⟩ = some (.string b') ∧ w'.cell? ⟨w.heap.size, 1, none⟩ = some (.int .i64 c))
        (first | exact ⟨(Below.refl _ _).drew, g0, g1⟩ | exact keepQ (by assumption) (by assumption) hN)
        (first | (go_at_call 11; refine (right_any _ _ _).mono ?_; rintro e w' ⟨rfl, hw'⟩; rw [HR.out]) | (go_at_call 10; refine (refright_any _ _ _).mono ?_; rintro e w' ⟨rfl, hw'⟩; rw [HR.out]) | (go_at_call 12; refine (room_any _ _ _).mono ?_; rintro e w' ⟨rfl, hw'⟩; rw [HR.out, if_pos rfl]) | (go_at_call 13; refine (alive_any _).mono ?_; rintro e w' ⟨rfl, hw'⟩))
    rename_i hS
    have hB4 : Below w.heap.size w w' := hB3.trans (hS.1.mono hB3.size)
    have y0 := (hS.1.cell (p := ⟨w2.heap.size, 0, none⟩) hz3).trans x0
    have y1 := (hS.1.cell (p := ⟨w2.heap.size, 1, none⟩) hz3).trans x1
    clear hS g0 g1 x0 x1
    rcases HM.out with ⟨h1, h2, h3⟩ | ⟨h1, h2, h3⟩
    · obtain ⟨q1, q2, q3⟩ := rightB_true h1
      subst h2 h3
      clear h1 HM
      go_wp2_with fail
      go_ret
      exact ⟨rfl, hB4⟩
    · have q := rightB_false h1
      subst h2 h3
      clear h1 HM
      by_cases q1 : n < 1
      · go_wp2_with fail
        go_ret
        exact ⟨rfl, hB4⟩
      · have q2 : 65536 < n := by omega
        go_wp2_with fail
        go_ret
        exact ⟨rfl, hB4⟩

end Go.Proofs.Ytcmbibdpopoaaaa
