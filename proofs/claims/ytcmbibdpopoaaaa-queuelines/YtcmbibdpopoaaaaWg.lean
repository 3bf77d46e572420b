/- The walks of the document's own answers: Put, Take, Line. -/
import Derived.Test.YtcmbibdpopoaaaaWf
namespace Go.Proofs.Ytcmbibdpopoaaaa
set_option linter.unusedVariables false
set_option linter.unusedSimpArgs false
open Go.RowKit

set_option maxHeartbeats 400000 in
theorem refput (b s : ByteArray) (c : Int) (k : Nat) (w : World) (hc0 : 0 ≤ c) (hc : c ≤ 65536) (hb : (b.size : Int) ≤ c) (hs : s.size ≤ 100000) (hk : (k : Int) = min (s.size : Int) (c - b.size)) :
    Calls Try.prog 17 #[.agg #[.string b, .int .i64 c], .string s] w fun e w' => e = .returned (.tuple #[.agg #[.string (b ++ s.extract 0 k), .int .i64 c], .int .i64 k]) ∧ Below w.heap.size w w' := by
  have HK : Hid ((k : Int) = min (s.size : Int) (c - b.size)) := hk
  have hk1 : (k : Int) ≤ s.size := by omega
  have hk2 : b.size + k ≤ 65536 := by omega
  clear hk
  go_enter Try.func17, Try.ntmps17
  go_wp2
  go_loop [6] (fun x => ∃ i : Nat, i ≤ k ∧ x = .int .i64 i) (fun x => k - (intOf x).toNat)
  case atStart => exact ⟨0, Nat.zero_le _, rfl⟩
  case round =>
    obtain ⟨i, hi, rfl⟩ := hrel
    by_cases hlt : i < k
    · have h1 : (i : Int) < s.size := by omega
      have h2 : (b.size : Int) + i < c := by have := HK.out; omega
      go_wp2
      go_round
      case rel => exact ⟨i + 1, by omega, by go_num⟩
      case measure => simp [intOf]; omega
    · have hik : i = k := by omega
      subst hik
      by_cases h1 : (i : Int) < s.size
      · have h2 : ¬ (b.size : Int) + i < c := by have := HK.out; omega
        go_wp2
        go_region
        go_wp2
        refine bodyPost_ret (v := .tuple #[.agg #[.string (b ++ s.extract 0 i), .int .i64 c], .int .i64 i]) (by simp [results, Try.results17, go_sem]) rfl ⟨rfl, ?_⟩
        exact (((Below.refl _ _).alloc (Nat.le_refl _) _).alloc (by simp) _).drew
      · go_wp2
        go_region
        go_wp2
        refine bodyPost_ret (v := .tuple #[.agg #[.string (b ++ s.extract 0 i), .int .i64 c], .int .i64 i]) (by simp [results, Try.results17, go_sem]) rfl ⟨rfl, ?_⟩
        exact (((Below.refl _ _).alloc (Nat.le_refl _) _).alloc (by simp) _).drew

set_option maxHeartbeats 400000 in
theorem reftake (b : ByteArray) (c n : Int) (w : World) (hb : b.size ≤ 65536) (hn : 0 ≤ n) :
    Calls Try.prog 19 #[.agg #[.string b, .int .i64 c], .int .i64 n] w fun e w' => e = .returned (.tuple #[.agg #[.string (b.extract (min n.toNat b.size) b.size), .int .i64 c], .string (b.extract 0 (min n.toNat b.size))]) ∧ Below w.heap.size w w' := by
  obtain ⟨m, rfl⟩ := Int.eq_ofNat_of_zero_le hn
  rw [Int.toNat_natCast]
  by_cases hlt : (m : Int) < b.size
  · have e : min m b.size = m := by omega
    rw [e]
    have hle : (m : Int) ≤ b.size := by omega
    clear e
    go_enter Try.func19, Try.ntmps19
    go_wp2
    go_region
    go_wp2
    refine bodyPost_ret (v := .tuple #[.agg #[.string (b.extract m b.size), .int .i64 c], .string (b.extract 0 m)]) (by simp [results, Try.results19, go_sem]) rfl ⟨rfl, ?_⟩
    exact (((Below.refl _ _).alloc (Nat.le_refl _) _).alloc (by simp) _).drew
  · have e : min m b.size = b.size := by omega
    rw [e]
    clear e
    go_enter Try.func19, Try.ntmps19
    go_wp2
    go_region
    go_wp2
    refine bodyPost_ret (v := .tuple #[.agg #[.string (b.extract b.size b.size), .int .i64 c], .string (b.extract 0 b.size)]) (by simp [results, Try.results19, go_sem]) rfl ⟨rfl, ?_⟩
    exact (((Below.refl _ _).alloc (Nat.le_refl _) _).alloc (by simp) _).drew

end Go.Proofs.Ytcmbibdpopoaaaa
