/- The walks of Take and what it calls. -/
import Derived.Test.YtcmbibdpopoaaaaWb
import Derived.Deep.RegionHeld3
namespace Go.Proofs.Ytcmbibdpopoaaaa
set_option linter.unusedVariables false
set_option linter.unusedSimpArgs false
open Go.RowKit

theorem cf23 (a : Array Value) (w1 : World) : Sem.run Try.prog (callFunc 23 a) w1 = .ok (.enter 23 a) w1 := by kernel_rfl

set_option maxHeartbeats 400000 in
theorem take1 (a a2 : Nat) (b : ByteArray) (c n : Int) (w : World) (hb : b.size ≤ 65536) (h0 : w.cell? ⟨a, 0, none⟩ = some (.string b))
    (h2 : w.cell? ⟨a2, 0, none⟩ = some (.int .i64 n)) :
    Calls Try.prog 23 #[.pointer (some ⟨a2, 0, none⟩), .pointer (some ⟨a, 0, none⟩)] w fun e w' => e = .returned (.tuple #[.int .i64 (if n < 0 then 0 else min n b.size), .int .i64 (if n < 0 then 1 else 0)]) ∧ Below w.heap.size w w' := by
  go_enter Try.func23, Try.ntmps23
  go_wp2
  all_goals
    go_ret2
    refine ⟨?_, Below.refl _ _⟩
    simp
    try omega

set_option maxHeartbeats 400000 in
theorem without_any (b : ByteArray) (c : Int) (k : Nat) (w : World) (hb : b.size ≤ 65536) (hk : k ≤ b.size) :
    Calls Try.prog 24 #[.agg #[.string b, .int .i64 c], .int .i64 k] w fun e w' => e = .returned (.agg #[.string (b.extract k b.size), .int .i64 c]) ∧ Below w.heap.size w w' := by
  have hk' : (k : Int) ≤ (b.size : Int) := by omega
  go_enter Try.func24, Try.ntmps24
  go_wp2_with fail
  go_region
  go_wp2_with fail
  refine bodyPost_ret (v := .agg #[.string (b.extract k b.size), .int .i64 c]) (by simp [results, Try.results24, go_sem]) rfl ⟨rfl, ?_⟩
  exact (((Below.refl _ _).alloc (Nat.le_refl _) _).alloc (by simp) _).drew

set_option maxHeartbeats 400000 in
theorem take_no (b : ByteArray) (c n : Int) (w : World) (h : rightB b.size c = false) :
    Calls Try.prog 15 #[.agg #[.string b, .int .i64 c], .int .i64 n] w fun e w' => e = .returned (.tuple #[.agg #[.string ⟨#[]⟩, .int .i64 0], .string ⟨#[]⟩, .int .i64 1]) ∧ Below w.heap.size w w' := by
  have H : Hid (rightB b.size c = false) := h
  clear h
  go_enter Try.func15, Try.ntmps15
  go_wp2_with fail
  refine (ask_no _ _ _ _ H.out).mono ?_
  rintro e w1 ⟨rfl, hb1⟩
  have c0 : w1.cell? ⟨w.heap.size + 1 + 1, 0, none⟩ = some (.string ⟨#[]⟩) := (hb1.cell (p := ⟨w.heap.size + 1 + 1, 0, none⟩) (by simp)).trans (by go_simp)
  have c1 : w1.cell? ⟨w.heap.size + 1 + 1, 1, none⟩ = some (.int .i64 0) := (hb1.cell (p := ⟨w.heap.size + 1 + 1, 1, none⟩) (by simp)).trans (by go_simp)
  have f0 : ∀ o, w1.frozen? ⟨w.heap.size + 1 + 1, o, none⟩ = false := fun o => (hb1.frozen (p := ⟨w.heap.size + 1 + 1, o, none⟩) (by simp)).trans (by go_simp)
  go_wp2_with fail
  refine bodyPost_ret (v := .tuple #[.agg #[.string ⟨#[]⟩, .int .i64 0], .string ⟨#[]⟩, .int .i64 1]) (by simp [results, Try.results15, go_sem, c0, c1]) rfl ⟨rfl, ?_⟩
  exact (((((Below.refl _ _).alloc (Nat.le_refl _) _).alloc (by simp) _).alloc (by simp; omega) _).trans (hb1.mono (by simp; omega))).setCell (by simp; omega) _ |>.setCell (by simp; omega) _

set_option maxHeartbeats 400000 in
theorem take_neg (b : ByteArray) (c n : Int) (w : World) (h : rightB b.size c = true) (hn : n < 0) :
    Calls Try.prog 15 #[.agg #[.string b, .int .i64 c], .int .i64 n] w fun e w' => e = .returned (.tuple #[.agg #[.string ⟨#[]⟩, .int .i64 0], .string ⟨#[]⟩, .int .i64 1]) ∧ Below w.heap.size w w' := by
  obtain ⟨r1, r2, r3⟩ := rightB_true h
  have H : Hid (rightB b.size c = true) := h
  clear h
  go_enter Try.func15, Try.ntmps15
  go_wp2_with fail
  refine (ask_yes _ _ _ _ _ H.out 0 1 (cf23 _) ?_).mono ?_
  · intro w1 hw1
    refine (take1 _ _ b c n w1 (by omega) ?_ ?_).mono ?_
    · exact (hw1.cell (p := ⟨w.heap.size, 0, none⟩) (by simp; omega)).trans (by go_simp)
    · exact (hw1.cell (p := ⟨w.heap.size + 1, 0, none⟩) (by simp)).trans (by go_simp)
    · rintro e w2 ⟨rfl, hb2⟩
      exact ⟨by rw [if_pos hn, if_pos hn], hb2⟩
  rintro e w1 ⟨rfl, hb1⟩
  have c0 : w1.cell? ⟨w.heap.size + 1 + 1, 0, none⟩ = some (.string ⟨#[]⟩) := (hb1.cell (p := ⟨w.heap.size + 1 + 1, 0, none⟩) (by simp)).trans (by go_simp)
  have c1 : w1.cell? ⟨w.heap.size + 1 + 1, 1, none⟩ = some (.int .i64 0) := (hb1.cell (p := ⟨w.heap.size + 1 + 1, 1, none⟩) (by simp)).trans (by go_simp)
  have f0 : ∀ o, w1.frozen? ⟨w.heap.size + 1 + 1, o, none⟩ = false := fun o => (hb1.frozen (p := ⟨w.heap.size + 1 + 1, o, none⟩) (by simp)).trans (by go_simp)
  go_wp2_with fail
  refine bodyPost_ret (v := .tuple #[.agg #[.string ⟨#[]⟩, .int .i64 0], .string ⟨#[]⟩, .int .i64 1]) (by simp [results, Try.results15, go_sem, c0, c1]) rfl ⟨rfl, ?_⟩
  exact (((((Below.refl _ _).alloc (Nat.le_refl _) _).alloc (by simp) _).alloc (by simp; omega) _).trans (hb1.mono (by simp; omega))).setCell (by simp; omega) _ |>.setCell (by simp; omega) _

theorem keepT {B : Nat} {W0 W w' : World} {N : Nat} {v0 v1 : Value} (hb : Below W.heap.size W w') (h : Below B W0 W ∧ W.cell? ⟨N, 0, none⟩ = some v0 ∧ W.cell? ⟨N, 1, none⟩ = some v1)
    (hN : N < W0.heap.size) (hB : B ≤ W0.heap.size) : Below B W0 w' ∧ w'.cell? ⟨N, 0, none⟩ = some v0 ∧ w'.cell? ⟨N, 1, none⟩ = some v1 := by
  obtain ⟨h1, h2, h3⟩ := h
  have hN' : N < W.heap.size := Nat.lt_of_lt_of_le hN h1.size
  exact ⟨h1.trans (hb.mono (Nat.le_trans hB h1.size)), (hb.cell (p := ⟨N, 0, none⟩) hN').trans h2, (hb.cell (p := ⟨N, 1, none⟩) hN').trans h3⟩

theorem keepTs {B : Nat} {W0 W : World} {N : Nat} {v0 v1 x : Value} {o : Nat} (h : Below B W0 W ∧ W.cell? ⟨N, 0, none⟩ = some v0 ∧ W.cell? ⟨N, 1, none⟩ = some v1)
    (hN : N < B) {M : Nat} (hM : B ≤ M) : Below B W0 (W.setCell ⟨M, o, none⟩ x) ∧ (W.setCell ⟨M, o, none⟩ x).cell? ⟨N, 0, none⟩ = some v0 ∧ (W.setCell ⟨M, o, none⟩ x).cell? ⟨N, 1, none⟩ = some v1 := by
  obtain ⟨h1, h2, h3⟩ := h
  exact ⟨h1.setCell hM _, (World.cell?_setCell_far _ _ _ _ (by simp; omega)).trans h2, (World.cell?_setCell_far _ _ _ _ (by simp; omega)).trans h3⟩

set_option maxHeartbeats 1000000 in
theorem take_yes (b : ByteArray) (c n : Int) (w : World) (h : rightB b.size c = true) (hn : 0 ≤ n) :
    Calls Try.prog 15 #[.agg #[.string b, .int .i64 c], .int .i64 n] w fun e w' => e = .returned (.tuple #[.agg #[.string (b.extract (min n.toNat b.size) b.size), .int .i64 c], .string (b.extract 0 (min n.toNat b.size)), .int .i64 0]) ∧ Below w.heap.size w w' := by
  obtain ⟨r1, r2, r3⟩ := rightB_true h
  have H : Hid (rightB b.size c = true) := h
  clear h
  obtain ⟨k, hk⟩ : ∃ k : Nat, k = min n.toNat b.size := ⟨_, rfl⟩
  rw [← hk]
  have hk1 : (k : Int) ≤ (b.size : Int) := by omega
  have hk2 : k ≤ b.size := by omega
  have HK : Hid (k = min n.toNat b.size) := hk
  clear hk
  go_enter Try.func15, Try.ntmps15
  go_wp2_with fail
  refine (ask_yes _ _ _ _ _ H.out k 0 (cf23 _) ?_).mono ?_
  · intro w1 hw1
    refine (take1 _ _ b c n w1 (by omega) ?_ ?_).mono ?_
    · exact (hw1.cell (p := ⟨w.heap.size, 0, none⟩) (by simp; omega)).trans (by go_simp)
    · exact (hw1.cell (p := ⟨w.heap.size + 1, 0, none⟩) (by simp)).trans (by go_simp)
    · rintro e w2 ⟨rfl, hb2⟩
      have := HK.out
      exact ⟨by rw [if_neg (by omega), if_neg (by omega), show min n (b.size : Int) = (k : Int) from by omega], hb2⟩
  rintro e w1 ⟨rfl, hb1⟩
  have a0 : w1.cell? ⟨w.heap.size, 0, none⟩ = some (.string b) := (hb1.cell (p := ⟨w.heap.size, 0, none⟩) (by simp; omega)).trans (by go_simp)
  have a1 : w1.cell? ⟨w.heap.size, 1, none⟩ = some (.int .i64 c) := (hb1.cell (p := ⟨w.heap.size, 1, none⟩) (by simp; omega)).trans (by go_simp)
  have c0 : w1.cell? ⟨w.heap.size + 1 + 1, 0, none⟩ = some (.string ⟨#[]⟩) := (hb1.cell (p := ⟨w.heap.size + 1 + 1, 0, none⟩) (by simp)).trans (by go_simp)
  have c1 : w1.cell? ⟨w.heap.size + 1 + 1, 1, none⟩ = some (.int .i64 0) := (hb1.cell (p := ⟨w.heap.size + 1 + 1, 1, none⟩) (by simp)).trans (by go_simp)
  have f0 : ∀ o, w1.frozen? ⟨w.heap.size + 1 + 1, o, none⟩ = false := fun o => (hb1.frozen (p := ⟨w.heap.size + 1 + 1, o, none⟩) (by simp)).trans (by go_simp)
  have hz : w.heap.size + 1 + 1 < w1.heap.size := by have := hb1.size; simp at this; omega
  have hB1 : Below w.heap.size w w1 := ((((Below.refl _ _).alloc (Nat.le_refl _) _).alloc (by simp) _).alloc (by simp; omega) _).trans (hb1.mono (by simp; omega))
  clear hb1
  go_wp2_with fail
  go_region_held3 (fun w' => Below (w.heap.size + 1 + 1) w1 w' ∧ w'.cell? ⟨w.heap.size, 0, none⟩ = some (.string b) ∧ w'.cell? ⟨w.heap.size, 1, none⟩ = some (.int .i64 c))
    (first | exact ⟨(Below.refl _ _).drew, a0, a1⟩ | exact keepTs (keepTs (by assumption) (by omega) (Nat.le_refl _)) (by omega) (Nat.le_refl _) | exact keepT (by assumption) (by assumption) (by omega) (by omega))
    (first | (go_at_call 24; refine (without_any _ _ _ _ (by omega) hk2).mono ?_; rintro e w' ⟨rfl, hw'⟩; have z0 := (hw'.cell (p := ⟨w.heap.size + 1 + 1, 0, none⟩) hz).trans c0; have z1 := (hw'.cell (p := ⟨w.heap.size + 1 + 1, 1, none⟩) hz).trans c1; have zf : ∀ o, w'.frozen? ⟨w.heap.size + 1 + 1, o, none⟩ = false := fun o => (hw'.frozen (p := ⟨w.heap.size + 1 + 1, o, none⟩) hz).trans (f0 o)))
  rename_i hS
  go_wp2_with fail
  refine bodyPost_ret (v := .tuple #[.agg #[.string (b.extract k b.size), .int .i64 c], .string (b.extract 0 k), .int .i64 0]) (by simp [results, Try.results15, go_sem, z0, z1]) rfl ⟨rfl, ?_⟩
  exact hB1.trans (hS.1.mono (by omega))

end Go.Proofs.Ytcmbibdpopoaaaa
