/- The walk of FrameSays. -/
import Derived.Test.YtplanlhgcckioaaRb
import Derived.Test.YtplanlhgcckioaaFa
import Derived.Test.YtplanlhgcckioaaWw
namespace Go.Proofs.Ytplanlhgcckioaa
set_option linter.unusedVariables false
set_option linter.unusedSimpArgs false
set_option maxRecDepth 100000
open Go.RowKit

theorem few_sh {M : List Fd} (h : ∀ f ∈ M, f.1.size ≤ 60 ∧ f.2.size ≤ 1010) : Sh M := fun f hf => ⟨Nat.le_trans (h f hf).1 (by decide), Nat.le_trans (h f hf).2 (by decide)⟩

theorem row_put5 {w : World} {v : Value} {M : List Fd} {N : Nat} (h : Row w v M) (hf : 0 < M.length → ∃ g n c, v = .slice (some ⟨g, 0, none⟩) n c ∧ N < g) (s : St) : Row (put5 w N s) v M :=
  ((((h.far hf 0 _).far hf 1 _).far hf 2 _).far hf 3 _).far hf 4 _

set_option maxHeartbeats 8000000 in
theorem says_walk (s : St) (L : List Fd) (ad : Option Addr) (cap : Nat) (m : ByteArray) (w : World) (h1 : s.m.size ≤ maxLen) (h2 : s.t.size ≤ maxLen) (h3 : s.r.size ≤ maxLen)
    (hr : Row w (.slice ad L.length cap) L) (hcm : cap ≤ maxLen) (hs : ∀ f ∈ L, f.1.size ≤ maxLen ∧ f.2.size ≤ maxLen) (hm : m.size ≤ maxLen) :
    Calls Try.prog 3 #[s.v, .slice ad L.length cap, .string m] w fun e w' => e = .returned (.bool true) ∧ Below w.heap.size w w' := by
  have hB : Below w.heap.size w (w.alloc (.cells s.cs.toArray 23)) := (Below.refl _ _).alloc (Nat.le_refl _) _
  have hF := Five.new w s
  have hR := hide (hr.below hB)
  have hsm := fun w => small_any s w h1 h2 h3
  have hfw := fun w h => few_own L ad cap w h hcm hs
  have hsh := small_short s
  unfold maxLen at hm
  have hmcut := small_cut m 20
  unfold St.cs at hB hF hR
  clear hs hcm hr h1 h2 h3
  unfold St.v at hsm ⊢
  go_enter Try.func3, Try.ntmps3
  go_wp2_with fail
  generalize World.alloc _ _ = W1 at hF hB hR ⊢
  go_cut [0, 1, 2] (fun s0 s1 s2 wc => ∃ M, s2 = .string (m.extract 0 (min (m.size : Int) 20).toNat) ∧ Hid (Row wc s1 M) ∧ M.length ≤ 45 ∧ Hid (Sh M) ∧ Five wc w.heap.size (smU s) ∧ Below w.heap.size w wc)
  case first =>
    obtain ⟨c0, c1, c2, c3, c4, -, -⟩ := id hF.drew
    refine region_upTo 1 1 1 (fun w' => Five w' w.heap.size s) (fun _ => True) (fun _ => True) (by kernel_rfl) ⟨hF.drew, trivial, trivial⟩ (fun hHeld => ?_)
    refine upTo_take 1 (S := (fun w' => Five w' w.heap.size s)) (i := 0) (oi := _) (v := .agg #[.string s.m, .string s.t, .int .i64 s.c, .string s.r, .int .i64 s.n]) rfl (by kernel_rfl) (by kernel_rfl) (by kernel_rfl) (fun _ _ _ h => h) (by decide) (by kernel_rfl) (by kernel_rfl) (fun l w1 hh g => hh.h1 g) hHeld (Or.inl ⟨by rfl, fun wS hSw => by obtain ⟨l0, l1, l2, l3, l4, -, -⟩ := (show Five wS w.heap.size s from hSw); go_simp⟩) (fun hHeld => ?_)
    simp only [Act.put, List.getElem_toArray, List.getElem_cons_zero, List.getElem_cons_succ, List.setIfInBounds_toArray, List.set_cons_zero, List.set_cons_succ]
    refine upTo_take 3 (S := fun _ => True) (i := 2) (oi := _) (v := .slice ad L.length cap) rfl (by kernel_rfl) (by kernel_rfl) (by kernel_rfl) (fun _ _ _ h => h) (by decide) (by kernel_rfl) (by kernel_rfl) (fun _ _ _ _ => trivial) hHeld (Or.inl ⟨by rfl, fun wS hSw => by go_simp⟩) (fun hHeld => ?_)
    simp only [Act.put, List.getElem_toArray, List.getElem_cons_zero, List.getElem_cons_succ, List.setIfInBounds_toArray, List.set_cons_zero, List.set_cons_succ]
    refine upTo_take 8 (S := fun _ => True) (i := 4) (oi := _) (v := .string m) rfl (by kernel_rfl) (by kernel_rfl) (by kernel_rfl) (fun _ _ _ h => h) (by decide) (by kernel_rfl) (by kernel_rfl) (fun _ _ _ _ => trivial) hHeld (Or.inl ⟨by rfl, fun wS hSw => by go_simp⟩) (fun hHeld => ?_)
    simp only [Act.put, List.getElem_toArray, List.getElem_cons_zero, List.getElem_cons_succ, List.setIfInBounds_toArray, List.set_cons_zero, List.set_cons_succ]
    refine upTo_take 6 (S := fun _ => True) (i := 5) (oi := _) (v := .string m) rfl (by kernel_rfl) (by kernel_rfl) (by kernel_rfl) (fun _ _ _ h => h) (by decide) (by kernel_rfl) (by kernel_rfl) (fun _ _ _ _ => trivial) hHeld (Or.inl ⟨by rfl, fun wS hSw => by go_simp⟩) (fun hHeld => ?_)
    simp only [Act.put, List.getElem_toArray, List.getElem_cons_zero, List.getElem_cons_succ, List.setIfInBounds_toArray, List.set_cons_zero, List.set_cons_succ]
    refine upTo_take 7 (S := fun _ => True) (i := 6) (oi := _) (v := .int .i64 m.size) rfl (by kernel_rfl) (by kernel_rfl) (by kernel_rfl) (fun _ _ _ h => h) (by decide) (by kernel_rfl) (by kernel_rfl) (fun _ _ _ _ => trivial) hHeld (Or.inl ⟨by rfl, fun wS hSw => by go_simp⟩) (fun hHeld => ?_)
    simp only [Act.put, List.getElem_toArray, List.getElem_cons_zero, List.getElem_cons_succ, List.setIfInBounds_toArray, List.set_cons_zero, List.set_cons_succ]
    refine upTo_take 8 (S := fun _ => True) (i := 7) (oi := _) (v := .int .i64 (min (m.size : Int) 20)) rfl (by kernel_rfl) (by kernel_rfl) (by kernel_rfl) (fun _ _ _ h => h) (by decide) (by kernel_rfl) (by kernel_rfl) (fun _ _ _ _ => trivial) hHeld (Or.inl ⟨by rfl, fun wS hSw => by go_simp⟩) (fun hHeld => ?_)
    simp only [Act.put, List.getElem_toArray, List.getElem_cons_zero, List.getElem_cons_succ, List.setIfInBounds_toArray, List.set_cons_zero, List.set_cons_succ]
    refine upTo_take 11 (S := fun _ => True) (i := 8) (oi := _) (v := .string (m.extract 0 (min (m.size : Int) 20).toNat)) rfl (by kernel_rfl) (by kernel_rfl) (by kernel_rfl) (fun _ _ _ h => h) (by decide) (by kernel_rfl) (by kernel_rfl) (fun _ _ _ _ => trivial) hHeld (Or.inl ⟨by rfl, fun wS hSw => by go_simp; intro hx; exfalso; have := hx (by omega); omega⟩) (fun hHeld => ?_)
    simp only [Act.put, List.getElem_toArray, List.getElem_cons_zero, List.getElem_cons_succ, List.setIfInBounds_toArray, List.set_cons_zero, List.set_cons_succ]
    refine upTo_run (i := 1) (o := _) (by kernel_rfl) rfl (fun K hK => ?_)
    go_simp
    refine (hsm _).mono ?_
    rintro e w2 ⟨rfl, hb2⟩
    refine hK.out _ _ (⟨fun g => Bool.noConfusion (show true = false from g), fun g => Bool.noConfusion (show true = false from g), fun g => Bool.noConfusion (show true = false from g)⟩) (fun hHeld => ?_)
    clear hK K
    have hF2 := hF.drew.below hb2
    have hB2 := (below_drew hB).trans (hb2.mono hB.size)
    have hR2 := hide ((hR.out.below ⟨rfl, rfl, rfl, Nat.le_refl _, fun _ _ => rfl⟩ : Row W1.drew _ _).below hb2)
    clear c0 c1 c2 c3 c4
    refine upTo_run (i := 3) (o := _) (by kernel_rfl) rfl (fun K hK => ?_)
    go_simp
    refine (hfw _ hR2.out).mono ?_
    rintro e w3 ⟨r, M, rfl, hR3, hM, hMs, hb3, hown⟩
    refine hK.out _ _ (⟨fun g => Bool.noConfusion (show true = false from g), fun g => Bool.noConfusion (show true = false from g), fun g => Bool.noConfusion (show true = false from g)⟩) (fun hHeld => ?_)
    clear hK K
    have hF3 := hF2.below hb3
    have hB3 := hB2.trans (hb3.mono hB2.size)
    have hfar : 0 < M.length → ∃ g n c, r = .slice (some ⟨g, 0, none⟩) n c ∧ w.heap.size < g := fun h => by
      obtain ⟨g, n, c, hg, hle⟩ := hown h
      exact ⟨g, n, c, hg, Nat.lt_of_lt_of_le hF2.lt hle⟩
    have HR3 := hide (row_put5 hR3 hfar (smU s))
    obtain ⟨ar, cr, rfl⟩ := hR3.slice
    obtain ⟨d0, d1, d2, d3, d4, -, df⟩ := id hF3
    clear hF hF2 hB hB2 hR hR2 hb2 hb3 hR3
    refine upTo_run (i := 9) (o := _) (by kernel_rfl) rfl (fun K hK => ?_)
    go_simp
    refine hK.out _ _ (⟨fun g => Bool.noConfusion (show true = false from g), fun g => Bool.noConfusion (show true = false from g), fun g => Bool.noConfusion (show true = false from g)⟩) (fun hHeld => ?_)
    clear hK K
    refine upTo_run (i := 10) (o := _) (by kernel_rfl) rfl (fun K hK => ?_)
    go_simp
    refine hK.out _ _ (⟨fun g => Bool.noConfusion (show true = false from g), fun g => Bool.noConfusion (show true = false from g), fun g => Bool.noConfusion (show true = false from g)⟩) (fun hHeld => ?_)
    clear hK K
    refine upTo_run (i := 11) (o := _) (by kernel_rfl) rfl (fun K hK => ?_)
    go_simp
    refine hK.out _ _ (⟨fun g => Bool.noConfusion (show true = false from g), fun g => Bool.noConfusion (show true = false from g), fun g => Bool.noConfusion (show true = false from g)⟩) (fun hHeld => ?_)
    clear hK K
    refine upTo_done (by kernel_rfl) ?_ _
    go_wp2_with fail
    go_meet
    exact ⟨M, rfl, HR3, hM, hide (few_sh hMs), put5_five hF3 (smU s), put5_below hB3 (Nat.le_refl _) (smU s)⟩
  case rest =>
    clear hF hB hR hsm hfw
    obtain ⟨M, rfl, hrow, hM, HS, hF, hB⟩ := hcut
    obtain ⟨ar, cr, rfl⟩ := hrow.out.slice
    have hms : (m.extract 0 (min (m.size : Int) 20).toNat).size ≤ 20 := hmcut
    generalize m.extract 0 (min (m.size : Int) 20).toNat = T at hms ⊢
    generalize smU s = F at hF hsh ⊢
    clear hmcut hm
    have hq := fun v w h => request_any F M v w hsh h (by omega) HS.out
    have hq2 := fun v w h => refrequest_any F M v w hsh h (by omega) HS.out
    have ha := fun v w h => answer_any F M T v w hsh h (by omega) HS.out
    have ha2 := fun v w h => refanswer_any F M T v w hsh h (by omega) HS.out
    obtain ⟨⟨A1, A2, A3⟩, hA⟩ : ∃ q, reqF F M = q := ⟨_, rfl⟩
    obtain ⟨⟨B1, B2, B3⟩, hBB⟩ : ∃ q, ansF F M T = q := ⟨_, rfl⟩
    rw [hA] at hq hq2
    rw [hBB] at ha ha2
    clear hA hBB HS
    unfold St.v anV at hq hq2 ha ha2
    have hF1 := hF
    have hB1 := hB
    have hrow1 := hrow
    obtain ⟨c0, c1, c2, c3, c4, -, -⟩ := id hF1
    go_wp2_with fail
    refine (hq _ _ hrow1.out).mono ?_
    rintro en w2 ⟨rfl, hb⟩
    have hF2 := (hF1.below hb).alloc (.cells #[.int .i64 A1, .int .i64 A2] 28)
    have hB2' := hB1.trans (hb.mono hB1.size)
    have hB2 := hB2'.alloc hB2'.size (.cells #[.int .i64 A1, .int .i64 A2] 28)
    have hrow2 := hide ((hrow1.out.below hb).below (one_alloc _ #[.int .i64 A1, .int .i64 A2] 28))
    have hX2 := Tw.new w2 A1 A2
    go_upto_region 3 with fail
    generalize w2.alloc _ = W2 at hF2 hB2 hrow2 hX2  ⊢
    generalize w2.heap.size = N2 at hX2  ⊢
    clear hF1 hB1 hrow1 hB2' hb c0 c1 c2 c3 c4
    obtain ⟨c0, c1, c2, c3, c4, -, -⟩ := id hF2
    go_wp2_with fail
    refine (hq2 _ _ hrow2.out).mono ?_
    rintro en w3 ⟨rfl, hb⟩
    have hF3 := (hF2.below hb).alloc (.cells #[.int .i64 A1, .int .i64 A2] 28)
    have hB3' := hB2.trans (hb.mono hB2.size)
    have hB3 := hB3'.alloc hB3'.size (.cells #[.int .i64 A1, .int .i64 A2] 28)
    have hrow3 := hide ((hrow2.out.below hb).below (one_alloc _ #[.int .i64 A1, .int .i64 A2] 28))
    have hX3 := Tw.new w3 A1 A2
    have hX23 := (hX2.below hb).alloc (.cells #[.int .i64 A1, .int .i64 A2] 28)
    clear hX2
    go_upto_region 4 with fail
    generalize w3.alloc _ = W3 at hF3 hB3 hrow3 hX3 hX23 ⊢
    generalize w3.heap.size = N3 at hX3 hX23 ⊢
    clear hF2 hB2 hrow2 hB3' hb c0 c1 c2 c3 c4
    obtain ⟨c0, c1, c2, c3, c4, -, -⟩ := id hF3
    go_wp2_with fail
    refine (ha _ _ hrow3.out).mono ?_
    rintro en w4 ⟨rfl, hb⟩
    have hF4 := (hF3.below hb).alloc (.cells #[.int .i64 B1, .int .i64 B2] 28)
    have hB4' := hB3.trans (hb.mono hB3.size)
    have hB4 := hB4'.alloc hB4'.size (.cells #[.int .i64 B1, .int .i64 B2] 28)
    have hrow4 := hide ((hrow3.out.below hb).below (one_alloc _ #[.int .i64 B1, .int .i64 B2] 28))
    have hX4 := Tw.new w4 B1 B2
    have hX24 := (hX23.below hb).alloc (.cells #[.int .i64 B1, .int .i64 B2] 28)
    have hX34 := (hX3.below hb).alloc (.cells #[.int .i64 B1, .int .i64 B2] 28)
    clear hX23 hX3
    go_upto_region 5 with fail
    generalize w4.alloc _ = W4 at hF4 hB4 hrow4 hX4 hX24 hX34 ⊢
    generalize w4.heap.size = N4 at hX4 hX24 hX34 ⊢
    clear hF3 hB3 hrow3 hB4' hb c0 c1 c2 c3 c4
    obtain ⟨c0, c1, c2, c3, c4, -, -⟩ := id hF4
    go_wp2_with fail
    refine (ha2 _ _ hrow4.out).mono ?_
    rintro en w5 ⟨rfl, hb⟩
    have hF5 := (hF4.below hb).alloc (.cells #[.int .i64 B1, .int .i64 B2] 28)
    have hB5' := hB4.trans (hb.mono hB4.size)
    have hB5 := hB5'.alloc hB5'.size (.cells #[.int .i64 B1, .int .i64 B2] 28)
    have hrow5 := hide ((hrow4.out.below hb).below (one_alloc _ #[.int .i64 B1, .int .i64 B2] 28))
    have hX5 := Tw.new w5 B1 B2
    have hX25 := (hX24.below hb).alloc (.cells #[.int .i64 B1, .int .i64 B2] 28)
    have hX35 := (hX34.below hb).alloc (.cells #[.int .i64 B1, .int .i64 B2] 28)
    have hX45 := (hX4.below hb).alloc (.cells #[.int .i64 B1, .int .i64 B2] 28)
    clear hX24 hX34 hX4
    go_upto_region 6 with fail
    generalize w5.alloc _ = W5 at hF5 hB5 hrow5 hX5 hX25 hX35 hX45 ⊢
    generalize w5.heap.size = N5 at hX5 hX25 hX35 hX45 ⊢
    clear hF4 hB4 hrow4 hB5' hb c0 c1 c2 c3 c4
    go_wp2_with fail
    refine (alive_any _).mono ?_
    rintro en w6 ⟨rfl, hb⟩
    have hB6 := hB5.trans (hb.mono hB5.size)
    have x20 := (hX25.below hb).c0
    have x21 := (hX25.below hb).c1
    have x30 := (hX35.below hb).c0
    have x31 := (hX35.below hb).c1
    have x40 := (hX45.below hb).c0
    have x41 := (hX45.below hb).c1
    have x50 := (hX5.below hb).c0
    have x51 := (hX5.below hb).c1
    go_wp2_with fail
    go_ret
    exact ⟨rfl, hB6⟩

end Go.Proofs.Ytplanlhgcckioaa
