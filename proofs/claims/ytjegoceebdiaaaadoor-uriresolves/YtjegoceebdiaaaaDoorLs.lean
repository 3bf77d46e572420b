/- The walk of UriResolves. -/
import Derived.Test.YtjegoceebdiaaaaDoorFb
import Derived.Test.YtjegoceebdiaaaaDoorRf
namespace Go.Proofs.YtjegoceebdiaaaaDoor
set_option linter.unusedVariables false
set_option linter.unusedSimpArgs false
open Go.RowKit

theorem two_new (w : World) (b u : U) : Six ((w.alloc (.cells #[.bool b.abs, .string b.host, .int .i64 b.port, .string b.path, .bool b.asks, .string b.query] 23)).alloc (.cells #[.bool u.abs, .string u.host, .int .i64 u.port, .string u.path, .bool u.asks, .string u.query] 23)) w.heap.size b ∧ Six ((w.alloc (.cells #[.bool b.abs, .string b.host, .int .i64 b.port, .string b.path, .bool b.asks, .string b.query] 23)).alloc (.cells #[.bool u.abs, .string u.host, .int .i64 u.port, .string u.path, .bool u.asks, .string u.query] 23)) (w.heap.size + 1) u ∧ Below w.heap.size w ((w.alloc (.cells #[.bool b.abs, .string b.host, .int .i64 b.port, .string b.path, .bool b.asks, .string b.query] 23)).alloc (.cells #[.bool u.abs, .string u.host, .int .i64 u.port, .string u.path, .bool u.asks, .string u.query] 23)) := by
  have e1 : (w.alloc (.cells b.cs.toArray 23)).heap.size = w.heap.size + 1 := by simp
  have hX : Six (w.alloc (.cells b.cs.toArray 23)) w.heap.size b := Six.new w b
  have hY : Six ((w.alloc (.cells b.cs.toArray 23)).alloc (.cells u.cs.toArray 23)) (w.heap.size + 1) u := by
    have := Six.new (w.alloc (.cells b.cs.toArray 23)) u
    rwa [e1] at this
  have hB1 : Below w.heap.size w (w.alloc (.cells b.cs.toArray 23)) := (Below.refl _ _).alloc (Nat.le_refl _) _
  have hB2 : Below (w.alloc (.cells b.cs.toArray 23)).heap.size (w.alloc (.cells b.cs.toArray 23)) ((w.alloc (.cells b.cs.toArray 23)).alloc (.cells u.cs.toArray 23)) := (Below.refl _ _).alloc (Nat.le_refl _) _
  exact ⟨hX.below hB2, hY, hB1.trans (hB2.mono hB1.size)⟩

set_option maxRecDepth 100000 in
set_option maxHeartbeats 2000000 in
theorem resolves_walk (b u : U) (w : World) (h1 : b.host.size ≤ maxLen) (h2 : b.path.size ≤ maxLen) (h3 : b.query.size ≤ maxLen) (g1 : u.host.size ≤ maxLen) (g2 : u.path.size ≤ maxLen) (g3 : u.query.size ≤ maxLen) (ht : Tabs w) :
    Calls Tryd.prog 4 #[b.v, u.v] w fun e w' => e = .returned (.bool true) ∧ Below w.heap.size w w' := by
  obtain ⟨hb0, hu0, hB0⟩ := two_new w b u
  have hfb := few_any b
  have hfu := few_any u
  go_enter Tryd.func4, Tryd.ntmps4
  unfold U.v
  go_wp2_with fail
  generalize World.alloc _ _ = W0 at hb0 hu0 hB0 ⊢
  go_cut [9] (fun s9 wc => Six wc w.heap.size (fewU b) ∧ Six wc (w.heap.size + 1) (fewU u) ∧ Below w.heap.size w wc)
  case first =>
    obtain ⟨c0, c1, c2, c3, c4, c5, -, -⟩ := id hb0.drew
    obtain ⟨d0, d1, d2, d3, d4, d5, -, -⟩ := id hu0.drew
    refine wp_region_held_drew (S := (fun _ => True)) (by kernel_rfl) (trivial) (fun hHeld => ?_)
    refine wpAnyH_ready (rs := [0, 2]) (by kernel_rfl) (by simp) ?_
    refine AllReadyH.cons (o := _) rfl (fun K hK => ?_) (AllReadyH.cons (o := _) rfl (fun K hK => ?_) AllReadyH.nil)
    · go_simp
      refine hK.out _ _ trivial (fun hHeld => ?_)
      clear hK K
      refine wpAnyH_ready (rs := [1, 2]) (by kernel_rfl) (by simp) ?_
      refine AllReadyH.cons (o := _) rfl (fun K hK => ?_) (AllReadyH.cons (o := _) rfl (fun K hK => ?_) AllReadyH.nil)
      · go_simp
        refine (hfb W0.drew h1 h2 h3).mono ?_
        rintro e w1 ⟨rfl, hq1⟩
        unfold U.v
        refine hK.out _ _ (trivial) (fun hHeld => ?_)
        clear hK K
        have hx1 := hb0.drew.below hq1
        have hy1 := hu0.drew.below hq1
        have hB1 := (below_drew hB0).trans (hq1.mono (below_drew hB0).size)
        clear hq1
        clear d0 d1 d2 d3 d4 d5
        obtain ⟨d0, d1, d2, d3, d4, d5, -, -⟩ := id hy1
        refine wpAnyH_ready (rs := [2]) (by kernel_rfl) (by simp) ?_
        refine AllReadyH.cons (o := _) rfl (fun K hK => ?_) AllReadyH.nil
        go_simp
        refine hK.out _ _ (trivial) (fun hHeld => ?_)
        clear hK K
        clear d0 d1 d2 d3 d4 d5
        refine wpAnyH_ready (rs := [3]) (by kernel_rfl) (by simp) ?_
        refine AllReadyH.cons (o := _) rfl (fun K hK => ?_) AllReadyH.nil
        go_simp
        refine (hfu w1 g1 g2 g3).mono ?_
        rintro e w2 ⟨rfl, hq2⟩
        unfold U.v
        refine hK.out _ _ (trivial) (fun hHeld => ?_)
        clear hK K
        have hx2 := hx1.below hq2
        have hy2 := hy1.below hq2
        have hB2 := hB1.trans (hq2.mono hB1.size)
        clear hq2 hx1 hy1 hB1
        obtain ⟨x0, x1, x2, x3, x4, x5, -, xf⟩ := id hx2
        refine wpAnyH_ready (rs := [4]) (by kernel_rfl) (by simp) ?_
        refine AllReadyH.cons (o := _) rfl (fun K hK => ?_) AllReadyH.nil
        go_simp
        refine hK.out _ _ (trivial) (fun hHeld => ?_)
        clear hK K
        have hx3 := put6_six hx2 (fewU b)
        have hy3 := put6_other (M := w.heap.size) hy2 (fewU b) (by omega)
        have hB3 := put6_below hB2 (Nat.le_refl _) (fewU b)
        dsimp only [put6] at hx3 hy3 hB3
        clear x0 x1 x2 x3 x4 x5 xf hx2 hy2 hB2
        generalize World.setCell _ _ _ = W3 at hx3 hy3 hB3 ⊢
        obtain ⟨y0, y1, y2, y3, y4, y5, -, yf⟩ := id hy3
        refine wpAnyH_ready (rs := [5]) (by kernel_rfl) (by simp) ?_
        refine AllReadyH.cons (o := _) rfl (fun K hK => ?_) AllReadyH.nil
        go_simp
        refine hK.out _ _ (trivial) (fun hHeld => ?_)
        clear hK K
        refine wpAnyH_done (by kernel_rfl) ?_ _
        go_wp2_with fail
        go_meet
        exact ⟨put6_other hx3 (fewU u) (by omega), put6_six hy3 (fewU u), put6_below hB3 (Nat.le_succ _) (fewU u)⟩
      · go_simp
        refine hK.out _ _ trivial (fun hHeld => ?_)
        clear hK K
        refine wpAnyH_ready (rs := [1]) (by kernel_rfl) (by simp) ?_
        refine AllReadyH.cons (o := _) rfl (fun K hK => ?_) AllReadyH.nil
        go_simp
        refine (hfb W0.drew h1 h2 h3).mono ?_
        rintro e w1 ⟨rfl, hq1⟩
        unfold U.v
        refine hK.out _ _ (trivial) (fun hHeld => ?_)
        clear hK K
        have hx1 := hb0.drew.below hq1
        have hy1 := hu0.drew.below hq1
        have hB1 := (below_drew hB0).trans (hq1.mono (below_drew hB0).size)
        clear hq1
        refine wpAnyH_ready (rs := [3]) (by kernel_rfl) (by simp) ?_
        refine AllReadyH.cons (o := _) rfl (fun K hK => ?_) AllReadyH.nil
        go_simp
        refine (hfu w1 g1 g2 g3).mono ?_
        rintro e w2 ⟨rfl, hq2⟩
        unfold U.v
        refine hK.out _ _ (trivial) (fun hHeld => ?_)
        clear hK K
        have hx2 := hx1.below hq2
        have hy2 := hy1.below hq2
        have hB2 := hB1.trans (hq2.mono hB1.size)
        clear hq2 hx1 hy1 hB1
        obtain ⟨x0, x1, x2, x3, x4, x5, -, xf⟩ := id hx2
        refine wpAnyH_ready (rs := [4]) (by kernel_rfl) (by simp) ?_
        refine AllReadyH.cons (o := _) rfl (fun K hK => ?_) AllReadyH.nil
        go_simp
        refine hK.out _ _ (trivial) (fun hHeld => ?_)
        clear hK K
        have hx3 := put6_six hx2 (fewU b)
        have hy3 := put6_other (M := w.heap.size) hy2 (fewU b) (by omega)
        have hB3 := put6_below hB2 (Nat.le_refl _) (fewU b)
        dsimp only [put6] at hx3 hy3 hB3
        clear x0 x1 x2 x3 x4 x5 xf hx2 hy2 hB2
        generalize World.setCell _ _ _ = W3 at hx3 hy3 hB3 ⊢
        obtain ⟨y0, y1, y2, y3, y4, y5, -, yf⟩ := id hy3
        refine wpAnyH_ready (rs := [5]) (by kernel_rfl) (by simp) ?_
        refine AllReadyH.cons (o := _) rfl (fun K hK => ?_) AllReadyH.nil
        go_simp
        refine hK.out _ _ (trivial) (fun hHeld => ?_)
        clear hK K
        refine wpAnyH_done (by kernel_rfl) ?_ _
        go_wp2_with fail
        go_meet
        exact ⟨put6_other hx3 (fewU u) (by omega), put6_six hy3 (fewU u), put6_below hB3 (Nat.le_succ _) (fewU u)⟩
    · go_simp
      refine hK.out _ _ trivial (fun hHeld => ?_)
      clear hK K
      refine wpAnyH_ready (rs := [0]) (by kernel_rfl) (by simp) ?_
      refine AllReadyH.cons (o := _) rfl (fun K hK => ?_) AllReadyH.nil
      go_simp
      refine hK.out _ _ (trivial) (fun hHeld => ?_)
      clear hK K
      refine wpAnyH_ready (rs := [1]) (by kernel_rfl) (by simp) ?_
      refine AllReadyH.cons (o := _) rfl (fun K hK => ?_) AllReadyH.nil
      go_simp
      refine (hfb W0.drew h1 h2 h3).mono ?_
      rintro e w1 ⟨rfl, hq1⟩
      unfold U.v
      refine hK.out _ _ (trivial) (fun hHeld => ?_)
      clear hK K
      have hx1 := hb0.drew.below hq1
      have hy1 := hu0.drew.below hq1
      have hB1 := (below_drew hB0).trans (hq1.mono (below_drew hB0).size)
      clear hq1
      refine wpAnyH_ready (rs := [3]) (by kernel_rfl) (by simp) ?_
      refine AllReadyH.cons (o := _) rfl (fun K hK => ?_) AllReadyH.nil
      go_simp
      refine (hfu w1 g1 g2 g3).mono ?_
      rintro e w2 ⟨rfl, hq2⟩
      unfold U.v
      refine hK.out _ _ (trivial) (fun hHeld => ?_)
      clear hK K
      have hx2 := hx1.below hq2
      have hy2 := hy1.below hq2
      have hB2 := hB1.trans (hq2.mono hB1.size)
      clear hq2 hx1 hy1 hB1
      obtain ⟨x0, x1, x2, x3, x4, x5, -, xf⟩ := id hx2
      refine wpAnyH_ready (rs := [4]) (by kernel_rfl) (by simp) ?_
      refine AllReadyH.cons (o := _) rfl (fun K hK => ?_) AllReadyH.nil
      go_simp
      refine hK.out _ _ (trivial) (fun hHeld => ?_)
      clear hK K
      have hx3 := put6_six hx2 (fewU b)
      have hy3 := put6_other (M := w.heap.size) hy2 (fewU b) (by omega)
      have hB3 := put6_below hB2 (Nat.le_refl _) (fewU b)
      dsimp only [put6] at hx3 hy3 hB3
      clear x0 x1 x2 x3 x4 x5 xf hx2 hy2 hB2
      generalize World.setCell _ _ _ = W3 at hx3 hy3 hB3 ⊢
      obtain ⟨y0, y1, y2, y3, y4, y5, -, yf⟩ := id hy3
      refine wpAnyH_ready (rs := [5]) (by kernel_rfl) (by simp) ?_
      refine AllReadyH.cons (o := _) rfl (fun K hK => ?_) AllReadyH.nil
      go_simp
      refine hK.out _ _ (trivial) (fun hHeld => ?_)
      clear hK K
      refine wpAnyH_done (by kernel_rfl) ?_ _
      go_wp2_with fail
      go_meet
      exact ⟨put6_other hx3 (fewU u) (by omega), put6_six hy3 (fewU u), put6_below hB3 (Nat.le_succ _) (fewU u)⟩
  case rest =>
    clear hb0 hu0 hB0 hfb hfu
    obtain ⟨hN, hM, hB⟩ := hcut
    have sb := few_short b
    have su := few_short u
    have pb := few_path b
    have pu := few_path u
    generalize fewU b = F at hN sb pb ⊢
    generalize fewU u = G at hM su pu ⊢
    have hr := fun W h => resolve_any F G W sb su (by omega) (by omega) h
    have hq := fun W => refresolve_any F G W sb su (by omega) (by omega)
    generalize rsU F G = X at hr hq
    generalize rsE F G = n at hr hq
    unfold U.v at hr hq
    obtain ⟨c0, c1, c2, c3, c4, c5, -, -⟩ := id hN
    obtain ⟨d0, d1, d2, d3, d4, d5, -, -⟩ := id hM
    go_wp2_with fail
    refine (hr _ (ht.below hB)).mono ?_
    rintro e w2 ⟨rfl, hb2⟩
    have hN2 := hN.below hb2
    have hM2 := hM.below hb2
    have hB2 := hB.trans (hb2.mono hB.size)
    clear hb2 hr hN hM hB c0 c1 c2 c3 c4 c5 d0 d1 d2 d3 d4 d5
    have hX := Six.new w2 X
    have hBx : Below w2.heap.size w2 (w2.alloc (.cells X.cs.toArray 23)) := (Below.refl _ _).alloc (Nat.le_refl _) _
    have hN3 := hN2.below hBx
    have hM3 := hM2.below hBx
    have hB3 := hB2.trans (hBx.mono hB2.size)
    unfold U.cs at hX hB3 hN3 hM3
    clear hBx hN2 hM2 hB2
    go_upto_region 3 with fail
    generalize w2.heap.size = NX at hX ⊢
    generalize World.alloc _ _ = W3 at hX hB3 hN3 hM3 ⊢
    obtain ⟨c0, c1, c2, c3, c4, c5, -, -⟩ := id hN3
    obtain ⟨d0, d1, d2, d3, d4, d5, -, -⟩ := id hM3
    go_wp2_with fail
    refine (hq _).mono ?_
    rintro e w4 ⟨rfl, hb4⟩
    have hX4 := hX.below hb4
    have hB4 := hB3.trans (hb4.mono hB3.size)
    clear hb4 hX hB3 hN3 hM3 hq c0 c1 c2 c3 c4 c5 d0 d1 d2 d3 d4 d5
    have hY := Six.new w4 X
    have hBy : Below w4.heap.size w4 (w4.alloc (.cells X.cs.toArray 23)) := (Below.refl _ _).alloc (Nat.le_refl _) _
    have hX5 := hX4.below hBy
    have hB5 := hB4.trans (hBy.mono hB4.size)
    unfold U.cs at hY hX5 hB5
    clear hBy hX4 hB4
    go_wp2_with fail
    generalize w4.heap.size = NY at hY ⊢
    generalize World.alloc _ _ = W5 at hY hX5 hB5 ⊢
    refine (alive_any _).mono ?_
    rintro e w6 ⟨rfl, hb6⟩
    have hX6 := hX5.below hb6
    have hY6 := hY.below hb6
    have hB6 := hB5.trans (hb6.mono hB5.size)
    clear hb6 hX5 hY hB5
    obtain ⟨c0, c1, c2, c3, c4, c5, -, -⟩ := id hX6
    obtain ⟨d0, d1, d2, d3, d4, d5, -, -⟩ := id hY6
    go_wp2_with fail
    go_ret
    exact ⟨by simp, hB6⟩

end Go.Proofs.YtjegoceebdiaaaaDoor
