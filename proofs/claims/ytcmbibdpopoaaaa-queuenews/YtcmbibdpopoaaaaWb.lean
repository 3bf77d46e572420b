/- The walks of New, few, Put and alive. -/
import Derived.Test.YtcmbibdpopoaaaaWa
import Derived.RegionTactic
import Derived.BigRegion
namespace Go.Proofs.Ytcmbibdpopoaaaa
set_option linter.unusedVariables false
set_option linter.unusedSimpArgs false
open Go.RowKit

/-- Behind a call that keeps all that was there, every old cell reads as it did, and is as free to be written. -/
theorem stays {W W' : World} (h : Below W.heap.size W W') :
    (∀ n k, n < W.heap.size → W'.cell? ⟨n, k, none⟩ = W.cell? ⟨n, k, none⟩) ∧ ∀ n k, n < W.heap.size → W'.frozen? ⟨n, k, none⟩ = W.frozen? ⟨n, k, none⟩ := by
  constructor <;> intro n k hn
  · exact h.cell (p := ⟨n, k, none⟩) hn
  · exact h.frozen (p := ⟨n, k, none⟩) hn

set_option maxHeartbeats 400000 in
theorem new_yes (n : Int) (w : World) (h : rightB 0 n = true) :
    Calls Try.prog 9 #[.int .i64 n] w fun e w' => e = .returned (.tuple #[.agg #[.string ⟨#[]⟩, .int .i64 n], .int .i64 0]) ∧ Below w.heap.size w w' := by
  go_enter Try.func9, Try.ntmps9
  go_wp2_with fail
  refine (right_any _ _ _).mono ?_
  rintro e w' ⟨rfl, hb⟩
  rw [show rightB (ByteArray.size ⟨#[]⟩) n = true from h]
  clear h
  have c0 : w'.cell? ⟨w.heap.size, 0, none⟩ = some (.string ⟨#[]⟩) := (hb.cell (p := ⟨w.heap.size, 0, none⟩) (by simp; omega)).trans (by simp)
  have c1 : w'.cell? ⟨w.heap.size, 1, none⟩ = some (.int .i64 0) := (hb.cell (p := ⟨w.heap.size, 1, none⟩) (by simp; omega)).trans (by simp)
  have d0 : w'.cell? ⟨w.heap.size + 1, 0, none⟩ = some (.string ⟨#[]⟩) := (hb.cell (p := ⟨w.heap.size + 1, 0, none⟩) (by simp)).trans (by simp)
  have d1 : w'.cell? ⟨w.heap.size + 1, 1, none⟩ = some (.int .i64 n) := (hb.cell (p := ⟨w.heap.size + 1, 1, none⟩) (by simp)).trans (by simp)
  have f0 : ∀ o, w'.frozen? ⟨w.heap.size, o, none⟩ = false := fun o => (hb.frozen (p := ⟨w.heap.size, o, none⟩) (by simp; omega)).trans (by simp)
  go_wp2_with fail
  refine bodyPost_ret (v := .tuple #[.agg #[.string ⟨#[]⟩, .int .i64 n], .int .i64 0]) (by simp [results, Try.results9, go_sem, c0, c1]) rfl ⟨rfl, ?_⟩
  exact ((((Below.refl _ _).alloc (Nat.le_refl _) _).alloc (by simp) _).trans (hb.mono (by simp; omega))).setCell (by simp) _ |>.setCell (by simp) _

set_option maxHeartbeats 400000 in
theorem new_no (n : Int) (w : World) (h : rightB 0 n = false) :
    Calls Try.prog 9 #[.int .i64 n] w fun e w' => e = .returned (.tuple #[.agg #[.string ⟨#[]⟩, .int .i64 0], .int .i64 1]) ∧ Below w.heap.size w w' := by
  go_enter Try.func9, Try.ntmps9
  go_wp2_with fail
  refine (right_any _ _ _).mono ?_
  rintro e w' ⟨rfl, hb⟩
  rw [show rightB (ByteArray.size ⟨#[]⟩) n = false from h]
  clear h
  have c0 : w'.cell? ⟨w.heap.size, 0, none⟩ = some (.string ⟨#[]⟩) := (hb.cell (p := ⟨w.heap.size, 0, none⟩) (by simp; omega)).trans (by simp)
  have c1 : w'.cell? ⟨w.heap.size, 1, none⟩ = some (.int .i64 0) := (hb.cell (p := ⟨w.heap.size, 1, none⟩) (by simp; omega)).trans (by simp)
  have d0 : w'.cell? ⟨w.heap.size + 1, 0, none⟩ = some (.string ⟨#[]⟩) := (hb.cell (p := ⟨w.heap.size + 1, 0, none⟩) (by simp)).trans (by simp)
  have d1 : w'.cell? ⟨w.heap.size + 1, 1, none⟩ = some (.int .i64 n) := (hb.cell (p := ⟨w.heap.size + 1, 1, none⟩) (by simp)).trans (by simp)
  have f0 : ∀ o, w'.frozen? ⟨w.heap.size, o, none⟩ = false := fun o => (hb.frozen (p := ⟨w.heap.size, o, none⟩) (by simp; omega)).trans (by simp)
  go_wp2_with fail
  refine bodyPost_ret (v := .tuple #[.agg #[.string ⟨#[]⟩, .int .i64 0], .int .i64 1]) (by simp [results, Try.results9, go_sem, c0, c1]) rfl ⟨rfl, ?_⟩
  exact ((((Below.refl _ _).alloc (Nat.le_refl _) _).alloc (by simp) _).trans (hb.mono (by simp; omega))).setCell (by simp) _ |>.setCell (by simp) _

set_option maxHeartbeats 400000 in
theorem few_any (b : ByteArray) (c : Int) (w : World) (hb : b.size ≤ maxLen) :
    Calls Try.prog 8 #[.agg #[.string b, .int .i64 c]] w fun e w' => ∃ b' : ByteArray, b'.size ≤ 70000 ∧ e = .returned (.agg #[.string b', .int .i64 c]) ∧ Below w.heap.size w w' := by
  unfold maxLen at hb
  go_enter Try.func8, Try.ntmps8
  go_wp2_with fail
  · refine bodyPost_ret (v := .agg #[.string (b.extract 0 70000), .int .i64 c]) (by simp [results, Try.results8, go_sem]) rfl ⟨_, ?_, rfl, ?_⟩
    · simp
      omega
    · exact ((Below.refl _ _).alloc (Nat.le_refl _) _).alloc (by simp) _
  · refine bodyPost_ret (v := .agg #[.string b, .int .i64 c]) (by simp [results, Try.results8, go_sem]) rfl ⟨_, ?_, rfl, ?_⟩
    · omega
    · exact ((Below.refl _ _).alloc (Nat.le_refl _) _).alloc (by simp) _

theorem cf22 (a : Array Value) (w1 : World) : Sem.run Try.prog (callFunc 22 a) w1 = .ok (.enter 22 a) w1 := by kernel_rfl

set_option maxHeartbeats 400000 in
theorem put1 (a a2 : Nat) (b s : ByteArray) (c : Int) (w : World) (hb : b.size ≤ 65536) (hc : 0 ≤ c ∧ c ≤ 65536) (hs : s.size ≤ maxLen) (h0 : w.cell? ⟨a, 0, none⟩ = some (.string b)) (h1 : w.cell? ⟨a, 1, none⟩ = some (.int .i64 c))
    (h2 : w.cell? ⟨a2, 0, none⟩ = some (.string s)) :
    Calls Try.prog 22 #[.pointer (some ⟨a2, 0, none⟩), .pointer (some ⟨a, 0, none⟩)] w fun e w' => e = .returned (.tuple #[.int .i64 (min (s.size : Int) (c - b.size)), .int .i64 0]) ∧ Below w.heap.size w w' := by
  unfold maxLen at hs
  go_enter Try.func22, Try.ntmps22
  go_wp2
  all_goals
    go_ret2
    refine ⟨?_, Below.refl _ _⟩
    simp
    omega

set_option maxHeartbeats 400000 in
theorem put_no (b s : ByteArray) (c : Int) (w : World) (h : rightB b.size c = false) :
    Calls Try.prog 14 #[.agg #[.string b, .int .i64 c], .string s] w fun e w' => e = .returned (.tuple #[.agg #[.string ⟨#[]⟩, .int .i64 0], .int .i64 0, .int .i64 1]) ∧ Below w.heap.size w w' := by
  have H : Hid (rightB b.size c = false) := h
  clear h
  go_enter Try.func14, Try.ntmps14
  go_wp2_with fail
  refine (ask_no _ _ _ _ H.out).mono ?_
  rintro e w1 ⟨rfl, hb1⟩
  have c0 : w1.cell? ⟨w.heap.size + 1 + 1, 0, none⟩ = some (.string ⟨#[]⟩) := (hb1.cell (p := ⟨w.heap.size + 1 + 1, 0, none⟩) (by simp)).trans (by go_simp)
  have c1 : w1.cell? ⟨w.heap.size + 1 + 1, 1, none⟩ = some (.int .i64 0) := (hb1.cell (p := ⟨w.heap.size + 1 + 1, 1, none⟩) (by simp)).trans (by go_simp)
  have f0 : ∀ o, w1.frozen? ⟨w.heap.size + 1 + 1, o, none⟩ = false := fun o => (hb1.frozen (p := ⟨w.heap.size + 1 + 1, o, none⟩) (by simp)).trans (by go_simp)
  go_wp2_with fail
  refine bodyPost_ret (v := .tuple #[.agg #[.string ⟨#[]⟩, .int .i64 0], .int .i64 0, .int .i64 1]) (by simp [results, Try.results14, go_sem, c0, c1]) rfl ⟨rfl, ?_⟩
  exact (((((Below.refl _ _).alloc (Nat.le_refl _) _).alloc (by simp) _).alloc (by simp; omega) _).trans (hb1.mono (by simp; omega))).setCell (by simp; omega) _ |>.setCell (by simp; omega) _

set_option maxHeartbeats 400000 in
theorem put_yes (b s : ByteArray) (c : Int) (w : World) (h : rightB b.size c = true) (hs : s.size ≤ maxLen) :
    Calls Try.prog 14 #[.agg #[.string b, .int .i64 c], .string s] w fun e w' => e = .returned (.tuple #[.agg #[.string (b ++ s.extract 0 (min (s.size : Int) (c - b.size)).toNat), .int .i64 c], .int .i64 (min (s.size : Int) (c - b.size)), .int .i64 0]) ∧ Below w.heap.size w w' := by
  obtain ⟨r1, r2, r3⟩ := rightB_true h
  have H : Hid (rightB b.size c = true) := h
  clear h
  obtain ⟨k, hk⟩ : ∃ k : Nat, (k : Int) = min (s.size : Int) (c - b.size) := ⟨(min (s.size : Int) (c - b.size)).toNat, by omega⟩
  rw [← hk, Int.toNat_natCast]
  have hks : k ≤ s.size := by omega
  have hkb : b.size + k ≤ 65536 := by omega
  have HK : Hid ((k : Int) = min (s.size : Int) (c - b.size)) := hk
  clear hk
  go_enter Try.func14, Try.ntmps14
  go_wp2_with fail
  refine (ask_yes _ _ _ _ _ H.out k 0 (cf22 _) ?_).mono ?_
  · intro w1 hw1
    rw [HK.out]
    refine put1 _ _ b s c w1 (by omega) ⟨by omega, by omega⟩ hs ?_ ?_ ?_
    · exact (hw1.cell (p := ⟨w.heap.size, 0, none⟩) (by simp; omega)).trans (by go_simp)
    · exact (hw1.cell (p := ⟨w.heap.size, 1, none⟩) (by simp; omega)).trans (by go_simp)
    · exact (hw1.cell (p := ⟨w.heap.size + 1, 0, none⟩) (by simp)).trans (by go_simp)
  rintro e w1 ⟨rfl, hb1⟩
  have a0 : w1.cell? ⟨w.heap.size, 0, none⟩ = some (.string b) := (hb1.cell (p := ⟨w.heap.size, 0, none⟩) (by simp; omega)).trans (by go_simp)
  have a1 : w1.cell? ⟨w.heap.size, 1, none⟩ = some (.int .i64 c) := (hb1.cell (p := ⟨w.heap.size, 1, none⟩) (by simp; omega)).trans (by go_simp)
  have s0 : w1.cell? ⟨w.heap.size + 1, 0, none⟩ = some (.string s) := (hb1.cell (p := ⟨w.heap.size + 1, 0, none⟩) (by simp)).trans (by go_simp)
  have c0 : w1.cell? ⟨w.heap.size + 1 + 1, 0, none⟩ = some (.string ⟨#[]⟩) := (hb1.cell (p := ⟨w.heap.size + 1 + 1, 0, none⟩) (by simp)).trans (by go_simp)
  have c1 : w1.cell? ⟨w.heap.size + 1 + 1, 1, none⟩ = some (.int .i64 0) := (hb1.cell (p := ⟨w.heap.size + 1 + 1, 1, none⟩) (by simp)).trans (by go_simp)
  have f0 : ∀ o, w1.frozen? ⟨w.heap.size + 1 + 1, o, none⟩ = false := fun o => (hb1.frozen (p := ⟨w.heap.size + 1 + 1, o, none⟩) (by simp)).trans (by go_simp)
  go_wp2_with fail
  go_region
  go_wp2_with fail
  refine bodyPost_ret (v := .tuple #[.agg #[.string (b ++ s.extract 0 k), .int .i64 c], .int .i64 k, .int .i64 0]) (by simp [results, Try.results14, go_sem, c0, c1]) rfl ⟨rfl, ?_⟩
  exact (((((((Below.refl _ _).alloc (Nat.le_refl _) _).alloc (by simp) _).alloc (by simp; omega) _).trans (hb1.mono (by simp; omega))).setCell (by simp; omega) _).setCell (by simp; omega) _).drew

end Go.Proofs.Ytcmbibdpopoaaaa
