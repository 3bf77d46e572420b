/- The walks of what the statements ask first: whether a known path is cleaned, and short addresses. -/
import Derived.Test.YtjegoceebdiaaaaDoorFk
namespace Go.Proofs.YtjegoceebdiaaaaDoor
set_option linter.unusedVariables false
set_option linter.unusedSimpArgs false
open Go.RowKit

theorem alive_clean : cleanS ⟨#[47, 97, 47, 98, 47, 46, 46, 47, 99, 47, 46, 47, 100]⟩ = ⟨#[47, 97, 47, 99, 47, 100]⟩ := by
  have h : cleanL [47, 97, 47, 98, 47, 46, 46, 47, 99, 47, 46, 47, 100] = [47, 97, 47, 99, 47, 100] := by decide +kernel
  unfold cleanS
  show (⟨(cleanL [47, 97, 47, 98, 47, 46, 46, 47, 99, 47, 46, 47, 100]).toArray⟩ : ByteArray) = _
  rw [h]

set_option maxRecDepth 100000 in
set_option maxHeartbeats 1000000 in
theorem alive_any (w : World) : Calls Tryd.prog 15 #[] w fun e w' => e = .returned (.bool true) ∧ Below w.heap.size w w' := by
  have HE := hide alive_clean
  go_enter Tryd.func15, Tryd.ntmps15
  go_wp2_with fail
  refine (clean_any _ w (by decide)).mono ?_
  rintro e w1 ⟨rfl, hb1⟩
  rw [HE.out]
  go_wp2_with fail
  go_ret
  exact ⟨rfl, hb1⟩

theorem below_1 {B N : Nat} {w0 w : World} (hb : Below B w0 w) (hN : B ≤ N) (k : Nat) (v : Value) : Below B w0 (w.setCell ⟨N, k, none⟩ v) := hb.setCell hN v

/-- A short address. -/
def fewU (u : U) : U := ⟨u.abs, u.host.extract 0 (min (u.host.size : Int) 120).toNat, u.port, u.path.extract 0 (min (u.path.size : Int) 520).toNat, u.asks, u.query.extract 0 (min (u.query.size : Int) 520).toNat⟩
theorem few_cut (s : ByteArray) (n : Nat) : (s.extract 0 (min (s.size : Int) n).toNat).size ≤ n := by rw [ByteArray.size_extract]; omega

set_option maxRecDepth 100000 in
set_option maxHeartbeats 4000000 in
theorem few_any (u : U) (w : World) (h1 : u.host.size ≤ maxLen) (h2 : u.path.size ≤ maxLen) (h3 : u.query.size ≤ maxLen) :
    Calls Tryd.prog 9 #[u.v] w fun e w' => e = .returned ((fewU u).v) ∧ Below w.heap.size w w' := by
  have HR : Hid (fewU u = ⟨u.abs, u.host.extract 0 (min (u.host.size : Int) 120).toNat, u.port, u.path.extract 0 (min (u.path.size : Int) 520).toNat, u.asks, u.query.extract 0 (min (u.query.size : Int) 520).toNat⟩) := rfl
  unfold maxLen at h1 h2 h3
  have m1 : (0 : Int) ≤ min (u.host.size : Int) 120 := by omega
  have m2 : (0 : Int) ≤ min (u.path.size : Int) 520 := by omega
  have m3 : (0 : Int) ≤ min (u.query.size : Int) 520 := by omega
  have k1 : min (u.host.size : Int) 120 ≤ (u.host.size : Int) := by omega
  have k2 : min (u.path.size : Int) 520 ≤ (u.path.size : Int) := by omega
  have k3 : min (u.query.size : Int) 520 ≤ (u.query.size : Int) := by omega
  have hX : Six ((w.alloc (.cells #[.bool u.abs, .string u.host, .int .i64 u.port, .string u.path, .bool u.asks, .string u.query] 23)).alloc (.cells #[.bool false, .string ⟨#[]⟩, .int .i64 0, .string ⟨#[]⟩, .bool false, .string ⟨#[]⟩] 23)) w.heap.size u := (Six.new w u).alloc _
  have hY : Six ((w.alloc (.cells #[.bool u.abs, .string u.host, .int .i64 u.port, .string u.path, .bool u.asks, .string u.query] 23)).alloc (.cells #[.bool false, .string ⟨#[]⟩, .int .i64 0, .string ⟨#[]⟩, .bool false, .string ⟨#[]⟩] 23)) (w.heap.size + 1) U0 := by
    have := six_zero (w.alloc (.cells #[.bool u.abs, .string u.host, .int .i64 u.port, .string u.path, .bool u.asks, .string u.query] 23))
    rwa [show (w.alloc (.cells #[.bool u.abs, .string u.host, .int .i64 u.port, .string u.path, .bool u.asks, .string u.query] 23)).heap.size = w.heap.size + 1 by simp] at this
  have hB : Below w.heap.size w ((w.alloc (.cells #[.bool u.abs, .string u.host, .int .i64 u.port, .string u.path, .bool u.asks, .string u.query] 23)).alloc (.cells #[.bool false, .string ⟨#[]⟩, .int .i64 0, .string ⟨#[]⟩, .bool false, .string ⟨#[]⟩] 23)) := ((Below.refl _ _).alloc (Nat.le_refl _) _).alloc (by simp) _
  unfold U.v
  go_enter Tryd.func9, Tryd.ntmps9
  go_wp2_with fail
  generalize World.alloc _ _ = W1 at hX hY hB ⊢
  go_cut [3] (fun s3 wc => Six wc w.heap.size ⟨u.abs, u.host.extract 0 (min (u.host.size : Int) 120).toNat, u.port, u.path.extract 0 (min (u.path.size : Int) 520).toNat, u.asks, u.query.extract 0 (min (u.query.size : Int) 520).toNat⟩ ∧ Six wc (w.heap.size + 1) U0 ∧ Below w.heap.size w wc)
  case first =>
    obtain ⟨c0, c1, c2, c3, c4, c5, -, cf⟩ := id hX
    clear c0 c2 c4
    have f1 := cf 1
    have f3 := cf 3
    have f5 := cf 5
    clear cf
    refine region_upTo 22 24 26 (fun w' => w'.cell? ⟨w.heap.size, 1, none⟩ = some (.string u.host)) (fun w' => w'.cell? ⟨w.heap.size, 3, none⟩ = some (.string u.path)) (fun w' => w'.cell? ⟨w.heap.size, 5, none⟩ = some (.string u.query)) (by kernel_rfl) ⟨c1, c3, c5⟩ (fun hHeld => ?_)
    refine upTo_take 22 (S := (fun w' => w'.cell? ⟨w.heap.size, 1, none⟩ = some (.string u.host))) (i := 0) (oi := _) (v := .pointer (some ⟨w.heap.size, 1, none⟩)) rfl (by kernel_rfl) (by kernel_rfl) (by kernel_rfl) (fun _ _ _ h => h) (by decide) (by kernel_rfl) (by kernel_rfl) (fun l w' hh g => hh.h1 g) hHeld (Or.inl ⟨by rfl, fun wS hSw => by have hL : wS.cell? ⟨w.heap.size, 1, none⟩ = some (.string u.host) := hSw; go_simp⟩) (fun hHeld => ?_)
    simp only [Act.put, List.setIfInBounds_toArray, List.set_cons_zero, List.set_cons_succ]
    refine upTo_take 22 (S := (fun w' => w'.cell? ⟨w.heap.size, 1, none⟩ = some (.string u.host))) (i := 1) (oi := _) (v := .string u.host) rfl (by kernel_rfl) (by kernel_rfl) (by kernel_rfl) (fun _ _ _ h => h) (by decide) (by kernel_rfl) (by kernel_rfl) (fun l w' hh g => hh.h1 g) hHeld (Or.inl ⟨by rfl, fun wS hSw => by have hL : wS.cell? ⟨w.heap.size, 1, none⟩ = some (.string u.host) := hSw; go_simp⟩) (fun hHeld => ?_)
    simp only [Act.put, List.setIfInBounds_toArray, List.set_cons_zero, List.set_cons_succ]
    refine upTo_take 22 (S := (fun w' => w'.cell? ⟨w.heap.size, 1, none⟩ = some (.string u.host))) (i := 2) (oi := _) (v := .pointer (some ⟨w.heap.size, 1, none⟩)) rfl (by kernel_rfl) (by kernel_rfl) (by kernel_rfl) (fun _ _ _ h => h) (by decide) (by kernel_rfl) (by kernel_rfl) (fun l w' hh g => hh.h1 g) hHeld (Or.inl ⟨by rfl, fun wS hSw => by have hL : wS.cell? ⟨w.heap.size, 1, none⟩ = some (.string u.host) := hSw; go_simp⟩) (fun hHeld => ?_)
    simp only [Act.put, List.setIfInBounds_toArray, List.set_cons_zero, List.set_cons_succ]
    refine upTo_take 22 (S := (fun w' => w'.cell? ⟨w.heap.size, 1, none⟩ = some (.string u.host))) (i := 3) (oi := _) (v := .string u.host) rfl (by kernel_rfl) (by kernel_rfl) (by kernel_rfl) (fun _ _ _ h => h) (by decide) (by kernel_rfl) (by kernel_rfl) (fun l w' hh g => hh.h1 g) hHeld (Or.inl ⟨by rfl, fun wS hSw => by have hL : wS.cell? ⟨w.heap.size, 1, none⟩ = some (.string u.host) := hSw; go_simp⟩) (fun hHeld => ?_)
    simp only [Act.put, List.setIfInBounds_toArray, List.set_cons_zero, List.set_cons_succ]
    refine upTo_take 22 (S := (fun w' => w'.cell? ⟨w.heap.size, 1, none⟩ = some (.string u.host))) (i := 4) (oi := _) (v := .int .i64 (u.host.size : Int)) rfl (by kernel_rfl) (by kernel_rfl) (by kernel_rfl) (fun _ _ _ h => h) (by decide) (by kernel_rfl) (by kernel_rfl) (fun l w' hh g => hh.h1 g) hHeld (Or.inl ⟨by rfl, fun wS hSw => by have hL : wS.cell? ⟨w.heap.size, 1, none⟩ = some (.string u.host) := hSw; go_simp⟩) (fun hHeld => ?_)
    simp only [Act.put, List.setIfInBounds_toArray, List.set_cons_zero, List.set_cons_succ]
    refine upTo_take 22 (S := (fun w' => w'.cell? ⟨w.heap.size, 1, none⟩ = some (.string u.host))) (i := 5) (oi := _) (v := .int .i64 (min (u.host.size : Int) 120)) rfl (by kernel_rfl) (by kernel_rfl) (by kernel_rfl) (fun _ _ _ h => h) (by decide) (by kernel_rfl) (by kernel_rfl) (fun l w' hh g => hh.h1 g) hHeld (Or.inl ⟨by rfl, fun wS hSw => by have hL : wS.cell? ⟨w.heap.size, 1, none⟩ = some (.string u.host) := hSw; go_simp⟩) (fun hHeld => ?_)
    simp only [Act.put, List.setIfInBounds_toArray, List.set_cons_zero, List.set_cons_succ]
    refine upTo_take 22 (S := (fun w' => w'.cell? ⟨w.heap.size, 1, none⟩ = some (.string u.host))) (i := 6) (oi := _) (v := .string (u.host.extract 0 (min (u.host.size : Int) 120).toNat)) rfl (by kernel_rfl) (by kernel_rfl) (by kernel_rfl) (fun _ _ _ h => h) (by decide) (by kernel_rfl) (by kernel_rfl) (fun l w' hh g => hh.h1 g) hHeld (Or.inl ⟨by rfl, fun wS hSw => by have hL : wS.cell? ⟨w.heap.size, 1, none⟩ = some (.string u.host) := hSw; go_simp⟩) (fun hHeld => ?_)
    simp only [Act.put, List.setIfInBounds_toArray, List.set_cons_zero, List.set_cons_succ]
    refine upTo_take 24 (S := (fun w' => w'.cell? ⟨w.heap.size, 3, none⟩ = some (.string u.path))) (i := 7) (oi := _) (v := .pointer (some ⟨w.heap.size, 3, none⟩)) rfl (by kernel_rfl) (by kernel_rfl) (by kernel_rfl) (fun _ _ _ h => h) (by decide) (by kernel_rfl) (by kernel_rfl) (fun l w' hh g => hh.h2 g) hHeld (Or.inl ⟨by rfl, fun wS hSw => by have hL : wS.cell? ⟨w.heap.size, 3, none⟩ = some (.string u.path) := hSw; go_simp⟩) (fun hHeld => ?_)
    simp only [Act.put, List.setIfInBounds_toArray, List.set_cons_zero, List.set_cons_succ]
    refine upTo_take 24 (S := (fun w' => w'.cell? ⟨w.heap.size, 3, none⟩ = some (.string u.path))) (i := 8) (oi := _) (v := .string u.path) rfl (by kernel_rfl) (by kernel_rfl) (by kernel_rfl) (fun _ _ _ h => h) (by decide) (by kernel_rfl) (by kernel_rfl) (fun l w' hh g => hh.h2 g) hHeld (Or.inl ⟨by rfl, fun wS hSw => by have hL : wS.cell? ⟨w.heap.size, 3, none⟩ = some (.string u.path) := hSw; go_simp⟩) (fun hHeld => ?_)
    simp only [Act.put, List.setIfInBounds_toArray, List.set_cons_zero, List.set_cons_succ]
    refine upTo_take 24 (S := (fun w' => w'.cell? ⟨w.heap.size, 3, none⟩ = some (.string u.path))) (i := 9) (oi := _) (v := .pointer (some ⟨w.heap.size, 3, none⟩)) rfl (by kernel_rfl) (by kernel_rfl) (by kernel_rfl) (fun _ _ _ h => h) (by decide) (by kernel_rfl) (by kernel_rfl) (fun l w' hh g => hh.h2 g) hHeld (Or.inl ⟨by rfl, fun wS hSw => by have hL : wS.cell? ⟨w.heap.size, 3, none⟩ = some (.string u.path) := hSw; go_simp⟩) (fun hHeld => ?_)
    simp only [Act.put, List.setIfInBounds_toArray, List.set_cons_zero, List.set_cons_succ]
    refine upTo_take 24 (S := (fun w' => w'.cell? ⟨w.heap.size, 3, none⟩ = some (.string u.path))) (i := 10) (oi := _) (v := .string u.path) rfl (by kernel_rfl) (by kernel_rfl) (by kernel_rfl) (fun _ _ _ h => h) (by decide) (by kernel_rfl) (by kernel_rfl) (fun l w' hh g => hh.h2 g) hHeld (Or.inl ⟨by rfl, fun wS hSw => by have hL : wS.cell? ⟨w.heap.size, 3, none⟩ = some (.string u.path) := hSw; go_simp⟩) (fun hHeld => ?_)
    simp only [Act.put, List.setIfInBounds_toArray, List.set_cons_zero, List.set_cons_succ]
    refine upTo_take 24 (S := (fun w' => w'.cell? ⟨w.heap.size, 3, none⟩ = some (.string u.path))) (i := 11) (oi := _) (v := .int .i64 (u.path.size : Int)) rfl (by kernel_rfl) (by kernel_rfl) (by kernel_rfl) (fun _ _ _ h => h) (by decide) (by kernel_rfl) (by kernel_rfl) (fun l w' hh g => hh.h2 g) hHeld (Or.inl ⟨by rfl, fun wS hSw => by have hL : wS.cell? ⟨w.heap.size, 3, none⟩ = some (.string u.path) := hSw; go_simp⟩) (fun hHeld => ?_)
    simp only [Act.put, List.setIfInBounds_toArray, List.set_cons_zero, List.set_cons_succ]
    refine upTo_take 24 (S := (fun w' => w'.cell? ⟨w.heap.size, 3, none⟩ = some (.string u.path))) (i := 12) (oi := _) (v := .int .i64 (min (u.path.size : Int) 520)) rfl (by kernel_rfl) (by kernel_rfl) (by kernel_rfl) (fun _ _ _ h => h) (by decide) (by kernel_rfl) (by kernel_rfl) (fun l w' hh g => hh.h2 g) hHeld (Or.inl ⟨by rfl, fun wS hSw => by have hL : wS.cell? ⟨w.heap.size, 3, none⟩ = some (.string u.path) := hSw; go_simp⟩) (fun hHeld => ?_)
    simp only [Act.put, List.setIfInBounds_toArray, List.set_cons_zero, List.set_cons_succ]
    refine upTo_take 24 (S := (fun w' => w'.cell? ⟨w.heap.size, 3, none⟩ = some (.string u.path))) (i := 13) (oi := _) (v := .string (u.path.extract 0 (min (u.path.size : Int) 520).toNat)) rfl (by kernel_rfl) (by kernel_rfl) (by kernel_rfl) (fun _ _ _ h => h) (by decide) (by kernel_rfl) (by kernel_rfl) (fun l w' hh g => hh.h2 g) hHeld (Or.inl ⟨by rfl, fun wS hSw => by have hL : wS.cell? ⟨w.heap.size, 3, none⟩ = some (.string u.path) := hSw; go_simp⟩) (fun hHeld => ?_)
    simp only [Act.put, List.setIfInBounds_toArray, List.set_cons_zero, List.set_cons_succ]
    refine upTo_take 26 (S := (fun w' => w'.cell? ⟨w.heap.size, 5, none⟩ = some (.string u.query))) (i := 14) (oi := _) (v := .pointer (some ⟨w.heap.size, 5, none⟩)) rfl (by kernel_rfl) (by kernel_rfl) (by kernel_rfl) (fun _ _ _ h => h) (by decide) (by kernel_rfl) (by kernel_rfl) (fun l w' hh g => hh.h3 g) hHeld (Or.inl ⟨by rfl, fun wS hSw => by have hL : wS.cell? ⟨w.heap.size, 5, none⟩ = some (.string u.query) := hSw; go_simp⟩) (fun hHeld => ?_)
    simp only [Act.put, List.setIfInBounds_toArray, List.set_cons_zero, List.set_cons_succ]
    refine upTo_take 26 (S := (fun w' => w'.cell? ⟨w.heap.size, 5, none⟩ = some (.string u.query))) (i := 15) (oi := _) (v := .string u.query) rfl (by kernel_rfl) (by kernel_rfl) (by kernel_rfl) (fun _ _ _ h => h) (by decide) (by kernel_rfl) (by kernel_rfl) (fun l w' hh g => hh.h3 g) hHeld (Or.inl ⟨by rfl, fun wS hSw => by have hL : wS.cell? ⟨w.heap.size, 5, none⟩ = some (.string u.query) := hSw; go_simp⟩) (fun hHeld => ?_)
    simp only [Act.put, List.setIfInBounds_toArray, List.set_cons_zero, List.set_cons_succ]
    refine upTo_take 26 (S := (fun w' => w'.cell? ⟨w.heap.size, 5, none⟩ = some (.string u.query))) (i := 16) (oi := _) (v := .pointer (some ⟨w.heap.size, 5, none⟩)) rfl (by kernel_rfl) (by kernel_rfl) (by kernel_rfl) (fun _ _ _ h => h) (by decide) (by kernel_rfl) (by kernel_rfl) (fun l w' hh g => hh.h3 g) hHeld (Or.inl ⟨by rfl, fun wS hSw => by have hL : wS.cell? ⟨w.heap.size, 5, none⟩ = some (.string u.query) := hSw; go_simp⟩) (fun hHeld => ?_)
    simp only [Act.put, List.setIfInBounds_toArray, List.set_cons_zero, List.set_cons_succ]
    refine upTo_take 26 (S := (fun w' => w'.cell? ⟨w.heap.size, 5, none⟩ = some (.string u.query))) (i := 17) (oi := _) (v := .string u.query) rfl (by kernel_rfl) (by kernel_rfl) (by kernel_rfl) (fun _ _ _ h => h) (by decide) (by kernel_rfl) (by kernel_rfl) (fun l w' hh g => hh.h3 g) hHeld (Or.inl ⟨by rfl, fun wS hSw => by have hL : wS.cell? ⟨w.heap.size, 5, none⟩ = some (.string u.query) := hSw; go_simp⟩) (fun hHeld => ?_)
    simp only [Act.put, List.setIfInBounds_toArray, List.set_cons_zero, List.set_cons_succ]
    refine upTo_take 26 (S := (fun w' => w'.cell? ⟨w.heap.size, 5, none⟩ = some (.string u.query))) (i := 18) (oi := _) (v := .int .i64 (u.query.size : Int)) rfl (by kernel_rfl) (by kernel_rfl) (by kernel_rfl) (fun _ _ _ h => h) (by decide) (by kernel_rfl) (by kernel_rfl) (fun l w' hh g => hh.h3 g) hHeld (Or.inl ⟨by rfl, fun wS hSw => by have hL : wS.cell? ⟨w.heap.size, 5, none⟩ = some (.string u.query) := hSw; go_simp⟩) (fun hHeld => ?_)
    simp only [Act.put, List.setIfInBounds_toArray, List.set_cons_zero, List.set_cons_succ]
    refine upTo_take 26 (S := (fun w' => w'.cell? ⟨w.heap.size, 5, none⟩ = some (.string u.query))) (i := 19) (oi := _) (v := .int .i64 (min (u.query.size : Int) 520)) rfl (by kernel_rfl) (by kernel_rfl) (by kernel_rfl) (fun _ _ _ h => h) (by decide) (by kernel_rfl) (by kernel_rfl) (fun l w' hh g => hh.h3 g) hHeld (Or.inl ⟨by rfl, fun wS hSw => by have hL : wS.cell? ⟨w.heap.size, 5, none⟩ = some (.string u.query) := hSw; go_simp⟩) (fun hHeld => ?_)
    simp only [Act.put, List.setIfInBounds_toArray, List.set_cons_zero, List.set_cons_succ]
    refine upTo_take 26 (S := (fun w' => w'.cell? ⟨w.heap.size, 5, none⟩ = some (.string u.query))) (i := 20) (oi := _) (v := .string (u.query.extract 0 (min (u.query.size : Int) 520).toNat)) rfl (by kernel_rfl) (by kernel_rfl) (by kernel_rfl) (fun _ _ _ h => h) (by decide) (by kernel_rfl) (by kernel_rfl) (fun l w' hh g => hh.h3 g) hHeld (Or.inl ⟨by rfl, fun wS hSw => by have hL : wS.cell? ⟨w.heap.size, 5, none⟩ = some (.string u.query) := hSw; go_simp⟩) (fun hHeld => ?_)
    simp only [Act.put, List.setIfInBounds_toArray, List.set_cons_zero, List.set_cons_succ]
    refine upTo_take 22 (S := (fun w' => w'.cell? ⟨w.heap.size, 1, none⟩ = some (.string u.host))) (i := 21) (oi := _) (v := .pointer (some ⟨w.heap.size, 1, none⟩)) rfl (by kernel_rfl) (by kernel_rfl) (by kernel_rfl) (fun _ _ _ h => h) (by decide) (by kernel_rfl) (by kernel_rfl) (fun l w' hh g => hh.h1 g) hHeld (Or.inl ⟨by rfl, fun wS hSw => by have hL : wS.cell? ⟨w.heap.size, 1, none⟩ = some (.string u.host) := hSw; go_simp⟩) (fun hHeld => ?_)
    simp only [Act.put, List.setIfInBounds_toArray, List.set_cons_zero, List.set_cons_succ]
    refine upTo_run (i := 22) (o := _) (by kernel_rfl) rfl (fun K hK => ?_)
    go_simp
    refine hK.out _ _ ⟨fun g => Bool.noConfusion (show true = false from g), fun _ => by show World.cell? _ ⟨w.heap.size, 3, none⟩ = _; go_simp, fun _ => by show World.cell? _ ⟨w.heap.size, 5, none⟩ = _; go_simp⟩ (fun hHeld => ?_)
    clear hK K
    refine upTo_take 24 (S := (fun w' => w'.cell? ⟨w.heap.size, 3, none⟩ = some (.string u.path))) (i := 23) (oi := _) (v := .pointer (some ⟨w.heap.size, 3, none⟩)) rfl (by kernel_rfl) (by kernel_rfl) (by kernel_rfl) (fun _ _ _ h => h) (by decide) (by kernel_rfl) (by kernel_rfl) (fun l w' hh g => hh.h2 g) hHeld (Or.inl ⟨by rfl, fun wS hSw => by have hL : wS.cell? ⟨w.heap.size, 3, none⟩ = some (.string u.path) := hSw; go_simp⟩) (fun hHeld => ?_)
    simp only [Act.put, List.setIfInBounds_toArray, List.set_cons_zero, List.set_cons_succ]
    refine upTo_run (i := 24) (o := _) (by kernel_rfl) rfl (fun K hK => ?_)
    go_simp
    refine hK.out _ _ ⟨fun g => Bool.noConfusion (show true = false from g), fun g => Bool.noConfusion (show true = false from g), fun _ => by show World.cell? _ ⟨w.heap.size, 5, none⟩ = _; go_simp⟩ (fun hHeld => ?_)
    clear hK K
    refine upTo_take 26 (S := (fun w' => w'.cell? ⟨w.heap.size, 5, none⟩ = some (.string u.query))) (i := 25) (oi := _) (v := .pointer (some ⟨w.heap.size, 5, none⟩)) rfl (by kernel_rfl) (by kernel_rfl) (by kernel_rfl) (fun _ _ _ h => h) (by decide) (by kernel_rfl) (by kernel_rfl) (fun l w' hh g => hh.h3 g) hHeld (Or.inl ⟨by rfl, fun wS hSw => by have hL : wS.cell? ⟨w.heap.size, 5, none⟩ = some (.string u.query) := hSw; go_simp⟩) (fun hHeld => ?_)
    simp only [Act.put, List.setIfInBounds_toArray, List.set_cons_zero, List.set_cons_succ]
    refine upTo_run (i := 26) (o := _) (by kernel_rfl) rfl (fun K hK => ?_)
    go_simp
    refine hK.out _ _ ⟨fun g => Bool.noConfusion (show true = false from g), fun g => Bool.noConfusion (show true = false from g), fun g => Bool.noConfusion (show true = false from g)⟩ (fun hHeld => ?_)
    clear hK K
    refine upTo_done (by kernel_rfl) ?_ _
    go_wp2_with fail
    go_meet
    exact ⟨(((hX.s1 (u.host.extract 0 (min (u.host.size : Int) 120).toNat)).s3 (u.path.extract 0 (min (u.path.size : Int) 520).toNat)).s5 (u.query.extract 0 (min (u.query.size : Int) 520).toNat)).drew, (((hY.other w.heap.size 1 (.string (u.host.extract 0 (min (u.host.size : Int) 120).toNat)) (by omega)).other w.heap.size 3 (.string (u.path.extract 0 (min (u.path.size : Int) 520).toNat)) (by omega)).other w.heap.size 5 (.string (u.query.extract 0 (min (u.query.size : Int) 520).toNat)) (by omega)).drew, below_drew (below_1 (below_1 (below_1 hB (Nat.le_refl _) 1 (.string (u.host.extract 0 (min (u.host.size : Int) 120).toNat))) (Nat.le_refl _) 3 (.string (u.path.extract 0 (min (u.path.size : Int) 520).toNat))) (Nat.le_refl _) 5 (.string (u.query.extract 0 (min (u.query.size : Int) 520).toNat)))⟩
  case rest =>
    clear hX hY hB
    obtain ⟨hX2, hY2, hB2⟩ := hcut
    obtain ⟨d0, d1, d2, d3, d4, d5, -, -⟩ := id hX2
    obtain ⟨e0, e1, e2, e3, e4, e5, -, ef⟩ := id hY2
    clear m1 m2 m3 k1 k2 k3
    generalize u.host.extract 0 (min (u.host.size : Int) 120).toNat = A at HR d1 ⊢
    generalize u.path.extract 0 (min (u.path.size : Int) 520).toNat = B at HR d3 ⊢
    generalize u.query.extract 0 (min (u.query.size : Int) 520).toNat = D at HR d5 ⊢
    go_wp2_with fail
    refine bodyPost_ret (v := U.v ⟨u.abs, A, u.port, B, u.asks, D⟩) (by simp [results, Tryd.results9, go_sem, U.v, e0, e1, e2, e3, e4, e5, ef]) rfl ⟨by rw [HR.out]; rfl, ?_⟩
    exact put6_below hB2 (by omega) ⟨u.abs, A, u.port, B, u.asks, D⟩

end Go.Proofs.YtjegoceebdiaaaaDoor
