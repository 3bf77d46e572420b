/- The walk of what makes first lines short. -/
import Derived.Test.YtplanlhgcckioaaDoorFk
namespace Go.Proofs.YtplanlhgcckioaaDoor
set_option linter.unusedVariables false
set_option linter.unusedSimpArgs false
set_option maxRecDepth 100000
open Go.RowKit

theorem below_1 {B N : Nat} {w0 w : World} (hb : Below B w0 w) (hN : B ≤ N) (k : Nat) (v : Value) : Below B w0 (w.setCell ⟨N, k, none⟩ v) := hb.setCell hN v

/-- A short first line. -/
def smU (s : St) : St := ⟨s.m.extract 0 (min (s.m.size : Int) 40).toNat, s.t.extract 0 (min (s.t.size : Int) 520).toNat, s.c, s.r.extract 0 (min (s.r.size : Int) 120).toNat, s.n⟩
theorem small_cut (s : ByteArray) (n : Nat) : (s.extract 0 (min (s.size : Int) n).toNat).size ≤ n := by rw [ByteArray.size_extract]; omega
theorem small_short (s : St) : Short (smU s) := by
  have h1 := small_cut s.m 40
  have h2 := small_cut s.t 520
  have h3 := small_cut s.r 120
  exact ⟨Nat.le_trans h1 (by omega), Nat.le_trans h2 (by omega), Nat.le_trans h3 (by omega)⟩

set_option maxRecDepth 100000 in
set_option maxHeartbeats 4000000 in
theorem small_any (s : St) (w : World) (h1 : s.m.size ≤ maxLen) (h2 : s.t.size ≤ maxLen) (h3 : s.r.size ≤ maxLen) :
    Calls Tryd.prog 10 #[s.v] w fun e w' => e = .returned ((smU s).v) ∧ Below w.heap.size w w' := by
  have HR : Hid (smU s = ⟨s.m.extract 0 (min (s.m.size : Int) 40).toNat, s.t.extract 0 (min (s.t.size : Int) 520).toNat, s.c, s.r.extract 0 (min (s.r.size : Int) 120).toNat, s.n⟩) := rfl
  unfold maxLen at h1 h2 h3
  have m1 : (0 : Int) ≤ min (s.m.size : Int) 40 := by omega
  have k1 : min (s.m.size : Int) 40 ≤ (s.m.size : Int) := by omega
  have m2 : (0 : Int) ≤ min (s.t.size : Int) 520 := by omega
  have k2 : min (s.t.size : Int) 520 ≤ (s.t.size : Int) := by omega
  have m3 : (0 : Int) ≤ min (s.r.size : Int) 120 := by omega
  have k3 : min (s.r.size : Int) 120 ≤ (s.r.size : Int) := by omega
  have hX : Five ((w.alloc (.cells #[.string s.m, .string s.t, .int .i64 s.c, .string s.r, .int .i64 s.n] 33)).alloc (.cells #[.string ⟨#[]⟩, .string ⟨#[]⟩, .int .i64 0, .string ⟨#[]⟩, .int .i64 0] 33)) w.heap.size s := (Five.new w s).alloc _
  have hY : Five ((w.alloc (.cells #[.string s.m, .string s.t, .int .i64 s.c, .string s.r, .int .i64 s.n] 33)).alloc (.cells #[.string ⟨#[]⟩, .string ⟨#[]⟩, .int .i64 0, .string ⟨#[]⟩, .int .i64 0] 33)) (w.heap.size + 1) St.no := by
    have := five_zero (w.alloc (.cells #[.string s.m, .string s.t, .int .i64 s.c, .string s.r, .int .i64 s.n] 33))
    rwa [show (w.alloc (.cells #[.string s.m, .string s.t, .int .i64 s.c, .string s.r, .int .i64 s.n] 33)).heap.size = w.heap.size + 1 by simp] at this
  have hB : Below w.heap.size w ((w.alloc (.cells #[.string s.m, .string s.t, .int .i64 s.c, .string s.r, .int .i64 s.n] 33)).alloc (.cells #[.string ⟨#[]⟩, .string ⟨#[]⟩, .int .i64 0, .string ⟨#[]⟩, .int .i64 0] 33)) := ((Below.refl _ _).alloc (Nat.le_refl _) _).alloc (by simp) _
  unfold St.v
  go_enter Tryd.func10, Tryd.ntmps10
  go_wp2_with fail
  generalize World.alloc _ _ = W1 at hX hY hB ⊢
  go_cut [3] (fun s3 wc => Five wc w.heap.size ⟨s.m.extract 0 (min (s.m.size : Int) 40).toNat, s.t.extract 0 (min (s.t.size : Int) 520).toNat, s.c, s.r.extract 0 (min (s.r.size : Int) 120).toNat, s.n⟩ ∧ Five wc (w.heap.size + 1) St.no ∧ Below w.heap.size w wc)
  case first =>
    obtain ⟨c0, c1, c2, c3, c4, -, cf⟩ := id hX
    clear c2 c4
    have f0 := cf 0
    have f1 := cf 1
    have f3 := cf 3
    clear cf
    refine region_upTo 22 24 26 (fun w' => w'.cell? ⟨w.heap.size, 0, none⟩ = some (.string s.m)) (fun w' => w'.cell? ⟨w.heap.size, 1, none⟩ = some (.string s.t)) (fun w' => w'.cell? ⟨w.heap.size, 3, none⟩ = some (.string s.r)) (by kernel_rfl) ⟨c0, c1, c3⟩ (fun hHeld => ?_)
    refine upTo_take 22 (S := (fun w' => w'.cell? ⟨w.heap.size, 0, none⟩ = some (.string s.m))) (i := 0) (oi := _) (v := .pointer (some ⟨w.heap.size, 0, none⟩)) rfl (by kernel_rfl) (by kernel_rfl) (by kernel_rfl) (fun _ _ _ h => h) (by decide) (by kernel_rfl) (by kernel_rfl) (fun l w1 hh g => hh.h1 g) hHeld (Or.inl ⟨by rfl, fun wS hSw => by have hL : wS.cell? ⟨w.heap.size, 0, none⟩ = some (.string s.m) := hSw; go_simp⟩) (fun hHeld => ?_)
    simp only [Act.put, List.setIfInBounds_toArray, List.set_cons_zero, List.set_cons_succ]
    refine upTo_take 22 (S := (fun w' => w'.cell? ⟨w.heap.size, 0, none⟩ = some (.string s.m))) (i := 1) (oi := _) (v := .string s.m) rfl (by kernel_rfl) (by kernel_rfl) (by kernel_rfl) (fun _ _ _ h => h) (by decide) (by kernel_rfl) (by kernel_rfl) (fun l w1 hh g => hh.h1 g) hHeld (Or.inl ⟨by rfl, fun wS hSw => by have hL : wS.cell? ⟨w.heap.size, 0, none⟩ = some (.string s.m) := hSw; go_simp⟩) (fun hHeld => ?_)
    simp only [Act.put, List.setIfInBounds_toArray, List.set_cons_zero, List.set_cons_succ]
    refine upTo_take 22 (S := (fun w' => w'.cell? ⟨w.heap.size, 0, none⟩ = some (.string s.m))) (i := 2) (oi := _) (v := .pointer (some ⟨w.heap.size, 0, none⟩)) rfl (by kernel_rfl) (by kernel_rfl) (by kernel_rfl) (fun _ _ _ h => h) (by decide) (by kernel_rfl) (by kernel_rfl) (fun l w1 hh g => hh.h1 g) hHeld (Or.inl ⟨by rfl, fun wS hSw => by have hL : wS.cell? ⟨w.heap.size, 0, none⟩ = some (.string s.m) := hSw; go_simp⟩) (fun hHeld => ?_)
    simp only [Act.put, List.setIfInBounds_toArray, List.set_cons_zero, List.set_cons_succ]
    refine upTo_take 22 (S := (fun w' => w'.cell? ⟨w.heap.size, 0, none⟩ = some (.string s.m))) (i := 3) (oi := _) (v := .string s.m) rfl (by kernel_rfl) (by kernel_rfl) (by kernel_rfl) (fun _ _ _ h => h) (by decide) (by kernel_rfl) (by kernel_rfl) (fun l w1 hh g => hh.h1 g) hHeld (Or.inl ⟨by rfl, fun wS hSw => by have hL : wS.cell? ⟨w.heap.size, 0, none⟩ = some (.string s.m) := hSw; go_simp⟩) (fun hHeld => ?_)
    simp only [Act.put, List.setIfInBounds_toArray, List.set_cons_zero, List.set_cons_succ]
    refine upTo_take 22 (S := (fun w' => w'.cell? ⟨w.heap.size, 0, none⟩ = some (.string s.m))) (i := 4) (oi := _) (v := .int .i64 (s.m.size : Int)) rfl (by kernel_rfl) (by kernel_rfl) (by kernel_rfl) (fun _ _ _ h => h) (by decide) (by kernel_rfl) (by kernel_rfl) (fun l w1 hh g => hh.h1 g) hHeld (Or.inl ⟨by rfl, fun wS hSw => by have hL : wS.cell? ⟨w.heap.size, 0, none⟩ = some (.string s.m) := hSw; go_simp⟩) (fun hHeld => ?_)
    simp only [Act.put, List.setIfInBounds_toArray, List.set_cons_zero, List.set_cons_succ]
    refine upTo_take 22 (S := (fun w' => w'.cell? ⟨w.heap.size, 0, none⟩ = some (.string s.m))) (i := 5) (oi := _) (v := .int .i64 (min (s.m.size : Int) 40)) rfl (by kernel_rfl) (by kernel_rfl) (by kernel_rfl) (fun _ _ _ h => h) (by decide) (by kernel_rfl) (by kernel_rfl) (fun l w1 hh g => hh.h1 g) hHeld (Or.inl ⟨by rfl, fun wS hSw => by have hL : wS.cell? ⟨w.heap.size, 0, none⟩ = some (.string s.m) := hSw; go_simp⟩) (fun hHeld => ?_)
    simp only [Act.put, List.setIfInBounds_toArray, List.set_cons_zero, List.set_cons_succ]
    refine upTo_take 22 (S := (fun w' => w'.cell? ⟨w.heap.size, 0, none⟩ = some (.string s.m))) (i := 6) (oi := _) (v := .string (s.m.extract 0 (min (s.m.size : Int) 40).toNat)) rfl (by kernel_rfl) (by kernel_rfl) (by kernel_rfl) (fun _ _ _ h => h) (by decide) (by kernel_rfl) (by kernel_rfl) (fun l w1 hh g => hh.h1 g) hHeld (Or.inl ⟨by rfl, fun wS hSw => by have hL : wS.cell? ⟨w.heap.size, 0, none⟩ = some (.string s.m) := hSw; go_simp⟩) (fun hHeld => ?_)
    simp only [Act.put, List.setIfInBounds_toArray, List.set_cons_zero, List.set_cons_succ]
    refine upTo_take 24 (S := (fun w' => w'.cell? ⟨w.heap.size, 1, none⟩ = some (.string s.t))) (i := 7) (oi := _) (v := .pointer (some ⟨w.heap.size, 1, none⟩)) rfl (by kernel_rfl) (by kernel_rfl) (by kernel_rfl) (fun _ _ _ h => h) (by decide) (by kernel_rfl) (by kernel_rfl) (fun l w1 hh g => hh.h2 g) hHeld (Or.inl ⟨by rfl, fun wS hSw => by have hL : wS.cell? ⟨w.heap.size, 1, none⟩ = some (.string s.t) := hSw; go_simp⟩) (fun hHeld => ?_)
    simp only [Act.put, List.setIfInBounds_toArray, List.set_cons_zero, List.set_cons_succ]
    refine upTo_take 24 (S := (fun w' => w'.cell? ⟨w.heap.size, 1, none⟩ = some (.string s.t))) (i := 8) (oi := _) (v := .string s.t) rfl (by kernel_rfl) (by kernel_rfl) (by kernel_rfl) (fun _ _ _ h => h) (by decide) (by kernel_rfl) (by kernel_rfl) (fun l w1 hh g => hh.h2 g) hHeld (Or.inl ⟨by rfl, fun wS hSw => by have hL : wS.cell? ⟨w.heap.size, 1, none⟩ = some (.string s.t) := hSw; go_simp⟩) (fun hHeld => ?_)
    simp only [Act.put, List.setIfInBounds_toArray, List.set_cons_zero, List.set_cons_succ]
    refine upTo_take 24 (S := (fun w' => w'.cell? ⟨w.heap.size, 1, none⟩ = some (.string s.t))) (i := 9) (oi := _) (v := .pointer (some ⟨w.heap.size, 1, none⟩)) rfl (by kernel_rfl) (by kernel_rfl) (by kernel_rfl) (fun _ _ _ h => h) (by decide) (by kernel_rfl) (by kernel_rfl) (fun l w1 hh g => hh.h2 g) hHeld (Or.inl ⟨by rfl, fun wS hSw => by have hL : wS.cell? ⟨w.heap.size, 1, none⟩ = some (.string s.t) := hSw; go_simp⟩) (fun hHeld => ?_)
    simp only [Act.put, List.setIfInBounds_toArray, List.set_cons_zero, List.set_cons_succ]
    refine upTo_take 24 (S := (fun w' => w'.cell? ⟨w.heap.size, 1, none⟩ = some (.string s.t))) (i := 10) (oi := _) (v := .string s.t) rfl (by kernel_rfl) (by kernel_rfl) (by kernel_rfl) (fun _ _ _ h => h) (by decide) (by kernel_rfl) (by kernel_rfl) (fun l w1 hh g => hh.h2 g) hHeld (Or.inl ⟨by rfl, fun wS hSw => by have hL : wS.cell? ⟨w.heap.size, 1, none⟩ = some (.string s.t) := hSw; go_simp⟩) (fun hHeld => ?_)
    simp only [Act.put, List.setIfInBounds_toArray, List.set_cons_zero, List.set_cons_succ]
    refine upTo_take 24 (S := (fun w' => w'.cell? ⟨w.heap.size, 1, none⟩ = some (.string s.t))) (i := 11) (oi := _) (v := .int .i64 (s.t.size : Int)) rfl (by kernel_rfl) (by kernel_rfl) (by kernel_rfl) (fun _ _ _ h => h) (by decide) (by kernel_rfl) (by kernel_rfl) (fun l w1 hh g => hh.h2 g) hHeld (Or.inl ⟨by rfl, fun wS hSw => by have hL : wS.cell? ⟨w.heap.size, 1, none⟩ = some (.string s.t) := hSw; go_simp⟩) (fun hHeld => ?_)
    simp only [Act.put, List.setIfInBounds_toArray, List.set_cons_zero, List.set_cons_succ]
    refine upTo_take 24 (S := (fun w' => w'.cell? ⟨w.heap.size, 1, none⟩ = some (.string s.t))) (i := 12) (oi := _) (v := .int .i64 (min (s.t.size : Int) 520)) rfl (by kernel_rfl) (by kernel_rfl) (by kernel_rfl) (fun _ _ _ h => h) (by decide) (by kernel_rfl) (by kernel_rfl) (fun l w1 hh g => hh.h2 g) hHeld (Or.inl ⟨by rfl, fun wS hSw => by have hL : wS.cell? ⟨w.heap.size, 1, none⟩ = some (.string s.t) := hSw; go_simp⟩) (fun hHeld => ?_)
    simp only [Act.put, List.setIfInBounds_toArray, List.set_cons_zero, List.set_cons_succ]
    refine upTo_take 24 (S := (fun w' => w'.cell? ⟨w.heap.size, 1, none⟩ = some (.string s.t))) (i := 13) (oi := _) (v := .string (s.t.extract 0 (min (s.t.size : Int) 520).toNat)) rfl (by kernel_rfl) (by kernel_rfl) (by kernel_rfl) (fun _ _ _ h => h) (by decide) (by kernel_rfl) (by kernel_rfl) (fun l w1 hh g => hh.h2 g) hHeld (Or.inl ⟨by rfl, fun wS hSw => by have hL : wS.cell? ⟨w.heap.size, 1, none⟩ = some (.string s.t) := hSw; go_simp⟩) (fun hHeld => ?_)
    simp only [Act.put, List.setIfInBounds_toArray, List.set_cons_zero, List.set_cons_succ]
    refine upTo_take 26 (S := (fun w' => w'.cell? ⟨w.heap.size, 3, none⟩ = some (.string s.r))) (i := 14) (oi := _) (v := .pointer (some ⟨w.heap.size, 3, none⟩)) rfl (by kernel_rfl) (by kernel_rfl) (by kernel_rfl) (fun _ _ _ h => h) (by decide) (by kernel_rfl) (by kernel_rfl) (fun l w1 hh g => hh.h3 g) hHeld (Or.inl ⟨by rfl, fun wS hSw => by have hL : wS.cell? ⟨w.heap.size, 3, none⟩ = some (.string s.r) := hSw; go_simp⟩) (fun hHeld => ?_)
    simp only [Act.put, List.setIfInBounds_toArray, List.set_cons_zero, List.set_cons_succ]
    refine upTo_take 26 (S := (fun w' => w'.cell? ⟨w.heap.size, 3, none⟩ = some (.string s.r))) (i := 15) (oi := _) (v := .string s.r) rfl (by kernel_rfl) (by kernel_rfl) (by kernel_rfl) (fun _ _ _ h => h) (by decide) (by kernel_rfl) (by kernel_rfl) (fun l w1 hh g => hh.h3 g) hHeld (Or.inl ⟨by rfl, fun wS hSw => by have hL : wS.cell? ⟨w.heap.size, 3, none⟩ = some (.string s.r) := hSw; go_simp⟩) (fun hHeld => ?_)
    simp only [Act.put, List.setIfInBounds_toArray, List.set_cons_zero, List.set_cons_succ]
    refine upTo_take 26 (S := (fun w' => w'.cell? ⟨w.heap.size, 3, none⟩ = some (.string s.r))) (i := 16) (oi := _) (v := .pointer (some ⟨w.heap.size, 3, none⟩)) rfl (by kernel_rfl) (by kernel_rfl) (by kernel_rfl) (fun _ _ _ h => h) (by decide) (by kernel_rfl) (by kernel_rfl) (fun l w1 hh g => hh.h3 g) hHeld (Or.inl ⟨by rfl, fun wS hSw => by have hL : wS.cell? ⟨w.heap.size, 3, none⟩ = some (.string s.r) := hSw; go_simp⟩) (fun hHeld => ?_)
    simp only [Act.put, List.setIfInBounds_toArray, List.set_cons_zero, List.set_cons_succ]
    refine upTo_take 26 (S := (fun w' => w'.cell? ⟨w.heap.size, 3, none⟩ = some (.string s.r))) (i := 17) (oi := _) (v := .string s.r) rfl (by kernel_rfl) (by kernel_rfl) (by kernel_rfl) (fun _ _ _ h => h) (by decide) (by kernel_rfl) (by kernel_rfl) (fun l w1 hh g => hh.h3 g) hHeld (Or.inl ⟨by rfl, fun wS hSw => by have hL : wS.cell? ⟨w.heap.size, 3, none⟩ = some (.string s.r) := hSw; go_simp⟩) (fun hHeld => ?_)
    simp only [Act.put, List.setIfInBounds_toArray, List.set_cons_zero, List.set_cons_succ]
    refine upTo_take 26 (S := (fun w' => w'.cell? ⟨w.heap.size, 3, none⟩ = some (.string s.r))) (i := 18) (oi := _) (v := .int .i64 (s.r.size : Int)) rfl (by kernel_rfl) (by kernel_rfl) (by kernel_rfl) (fun _ _ _ h => h) (by decide) (by kernel_rfl) (by kernel_rfl) (fun l w1 hh g => hh.h3 g) hHeld (Or.inl ⟨by rfl, fun wS hSw => by have hL : wS.cell? ⟨w.heap.size, 3, none⟩ = some (.string s.r) := hSw; go_simp⟩) (fun hHeld => ?_)
    simp only [Act.put, List.setIfInBounds_toArray, List.set_cons_zero, List.set_cons_succ]
    refine upTo_take 26 (S := (fun w' => w'.cell? ⟨w.heap.size, 3, none⟩ = some (.string s.r))) (i := 19) (oi := _) (v := .int .i64 (min (s.r.size : Int) 120)) rfl (by kernel_rfl) (by kernel_rfl) (by kernel_rfl) (fun _ _ _ h => h) (by decide) (by kernel_rfl) (by kernel_rfl) (fun l w1 hh g => hh.h3 g) hHeld (Or.inl ⟨by rfl, fun wS hSw => by have hL : wS.cell? ⟨w.heap.size, 3, none⟩ = some (.string s.r) := hSw; go_simp⟩) (fun hHeld => ?_)
    simp only [Act.put, List.setIfInBounds_toArray, List.set_cons_zero, List.set_cons_succ]
    refine upTo_take 26 (S := (fun w' => w'.cell? ⟨w.heap.size, 3, none⟩ = some (.string s.r))) (i := 20) (oi := _) (v := .string (s.r.extract 0 (min (s.r.size : Int) 120).toNat)) rfl (by kernel_rfl) (by kernel_rfl) (by kernel_rfl) (fun _ _ _ h => h) (by decide) (by kernel_rfl) (by kernel_rfl) (fun l w1 hh g => hh.h3 g) hHeld (Or.inl ⟨by rfl, fun wS hSw => by have hL : wS.cell? ⟨w.heap.size, 3, none⟩ = some (.string s.r) := hSw; go_simp⟩) (fun hHeld => ?_)
    simp only [Act.put, List.setIfInBounds_toArray, List.set_cons_zero, List.set_cons_succ]
    refine upTo_take 22 (S := (fun w' => w'.cell? ⟨w.heap.size, 0, none⟩ = some (.string s.m))) (i := 21) (oi := _) (v := .pointer (some ⟨w.heap.size, 0, none⟩)) rfl (by kernel_rfl) (by kernel_rfl) (by kernel_rfl) (fun _ _ _ h => h) (by decide) (by kernel_rfl) (by kernel_rfl) (fun l w1 hh g => hh.h1 g) hHeld (Or.inl ⟨by rfl, fun wS hSw => by have hL : wS.cell? ⟨w.heap.size, 0, none⟩ = some (.string s.m) := hSw; go_simp⟩) (fun hHeld => ?_)
    simp only [Act.put, List.setIfInBounds_toArray, List.set_cons_zero, List.set_cons_succ]
    refine upTo_run (i := 22) (o := _) (by kernel_rfl) rfl (fun K hK => ?_)
    go_simp
    refine hK.out _ _ (⟨fun g => Bool.noConfusion (show true = false from g), fun _ => by show World.cell? _ ⟨w.heap.size, 1, none⟩ = _; go_simp, fun _ => by show World.cell? _ ⟨w.heap.size, 3, none⟩ = _; go_simp⟩) (fun hHeld => ?_)
    clear hK K
    refine upTo_take 24 (S := (fun w' => w'.cell? ⟨w.heap.size, 1, none⟩ = some (.string s.t))) (i := 23) (oi := _) (v := .pointer (some ⟨w.heap.size, 1, none⟩)) rfl (by kernel_rfl) (by kernel_rfl) (by kernel_rfl) (fun _ _ _ h => h) (by decide) (by kernel_rfl) (by kernel_rfl) (fun l w1 hh g => hh.h2 g) hHeld (Or.inl ⟨by rfl, fun wS hSw => by have hL : wS.cell? ⟨w.heap.size, 1, none⟩ = some (.string s.t) := hSw; go_simp⟩) (fun hHeld => ?_)
    simp only [Act.put, List.setIfInBounds_toArray, List.set_cons_zero, List.set_cons_succ]
    refine upTo_run (i := 24) (o := _) (by kernel_rfl) rfl (fun K hK => ?_)
    go_simp
    refine hK.out _ _ (⟨fun g => Bool.noConfusion (show true = false from g), fun g => Bool.noConfusion (show true = false from g), fun _ => by show World.cell? _ ⟨w.heap.size, 3, none⟩ = _; go_simp⟩) (fun hHeld => ?_)
    clear hK K
    refine upTo_take 26 (S := (fun w' => w'.cell? ⟨w.heap.size, 3, none⟩ = some (.string s.r))) (i := 25) (oi := _) (v := .pointer (some ⟨w.heap.size, 3, none⟩)) rfl (by kernel_rfl) (by kernel_rfl) (by kernel_rfl) (fun _ _ _ h => h) (by decide) (by kernel_rfl) (by kernel_rfl) (fun l w1 hh g => hh.h3 g) hHeld (Or.inl ⟨by rfl, fun wS hSw => by have hL : wS.cell? ⟨w.heap.size, 3, none⟩ = some (.string s.r) := hSw; go_simp⟩) (fun hHeld => ?_)
    simp only [Act.put, List.setIfInBounds_toArray, List.set_cons_zero, List.set_cons_succ]
    refine upTo_run (i := 26) (o := _) (by kernel_rfl) rfl (fun K hK => ?_)
    go_simp
    refine hK.out _ _ (⟨fun g => Bool.noConfusion (show true = false from g), fun g => Bool.noConfusion (show true = false from g), fun g => Bool.noConfusion (show true = false from g)⟩) (fun hHeld => ?_)
    clear hK K
    refine upTo_done (by kernel_rfl) ?_ _
    go_wp2_with fail
    go_meet
    exact ⟨(((hX.s0 (s.m.extract 0 (min (s.m.size : Int) 40).toNat)).s1 (s.t.extract 0 (min (s.t.size : Int) 520).toNat)).s3 (s.r.extract 0 (min (s.r.size : Int) 120).toNat)).drew, (((hY.other w.heap.size 0 (.string (s.m.extract 0 (min (s.m.size : Int) 40).toNat)) (by omega)).other w.heap.size 1 (.string (s.t.extract 0 (min (s.t.size : Int) 520).toNat)) (by omega)).other w.heap.size 3 (.string (s.r.extract 0 (min (s.r.size : Int) 120).toNat)) (by omega)).drew, below_drew (below_1 (below_1 (below_1 hB (Nat.le_refl _) 0 (.string (s.m.extract 0 (min (s.m.size : Int) 40).toNat))) (Nat.le_refl _) 1 (.string (s.t.extract 0 (min (s.t.size : Int) 520).toNat))) (Nat.le_refl _) 3 (.string (s.r.extract 0 (min (s.r.size : Int) 120).toNat)))⟩
  case rest =>
    clear hX hY hB
    obtain ⟨hX2, hY2, hB2⟩ := hcut
    obtain ⟨d0, d1, d2, d3, d4, -, -⟩ := id hX2
    obtain ⟨e0, e1, e2, e3, e4, -, ef⟩ := id hY2
    clear m1 m2 m3 k1 k2 k3
    generalize s.m.extract 0 (min (s.m.size : Int) 40).toNat = A at HR d0 ⊢
    generalize s.t.extract 0 (min (s.t.size : Int) 520).toNat = B at HR d1 ⊢
    generalize s.r.extract 0 (min (s.r.size : Int) 120).toNat = D at HR d3 ⊢
    dsimp only at d2 d4
    go_wp2_with fail
    refine bodyPost_ret (v := St.v ⟨A, B, s.c, D, s.n⟩) (by simp [results, Tryd.results10, go_sem, St.v, e0, e1, e2, e3, e4, ef]) rfl ⟨by rw [HR.out]; rfl, ?_⟩
    exact put5_below hB2 (by omega) ⟨A, B, s.c, D, s.n⟩

end Go.Proofs.YtplanlhgcckioaaDoor
