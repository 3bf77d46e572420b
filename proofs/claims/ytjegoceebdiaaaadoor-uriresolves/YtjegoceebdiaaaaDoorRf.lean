/- The walk of the document's own Resolve. -/
import Derived.Test.YtjegoceebdiaaaaDoorMy
import Derived.Test.YtjegoceebdiaaaaDoorRd
namespace Go.Proofs.YtjegoceebdiaaaaDoor
set_option linter.unusedVariables false
set_option linter.unusedSimpArgs false
open Go.RowKit

theorem seen_short {b u : U} (hb : Short b) (hu : Short u) (h1 : b.path.size ≤ 5000) (h2 : u.path.size ≤ 5000) (pb : placeB b = true) (pu : placeB u = true) : Short (seen b u) := by
  have := seen_fits hb hu h1 h2 pb pu
  exact ⟨this.host, this.path, this.query⟩

theorem rs_rt_bad {b u : U} (h : (rtU b && rtU u && b.abs) = true) (g : rtU (seen b u) = false) : rsU b u = U0 ∧ rsE b u = 2 := by
  obtain ⟨h1, h2⟩ := rs_rt h
  rw [g] at h1 h2
  exact ⟨h1, h2⟩
theorem rs_rt_good {b u C : U} (h : (rtU b && rtU u && b.abs) = true) (e : C = seen b u) (g : rtU C = true) : rsU b u = C ∧ rsE b u = 0 := by
  obtain ⟨h1, h2⟩ := rs_rt h
  rw [← e, g] at h1 h2
  exact ⟨h1, h2⟩

theorem cell_far {W : World} {M N j k : Nat} {v : Value} {x : Option Value} (h : W.cell? ⟨M, j, none⟩ = x) (hne : N ≠ M) : (W.setCell ⟨N, k, none⟩ v).cell? ⟨M, j, none⟩ = x :=
  (World.cell?_setCell_other _ _ _ _ (by simp [Ne.symm hne])).trans h
theorem Start.cellN {w W : World} {b u : U} (h : Start w W b u) (N k : Nat) (v : Value) (hN : w.heap.size + 1 + 1 < N) : Start w (W.setCell ⟨N, k, none⟩ v) b u :=
  ⟨h.x.other _ _ _ (by omega), h.y.other _ _ _ (by omega), h.z.other _ _ _ (by omega), h.b.setCell (show w.heap.size ≤ N by omega) _⟩

set_option maxRecDepth 100000 in
set_option maxHeartbeats 4000000 in
theorem refresolve_any (b u : U) (w : World) (hb : Short b) (hu : Short u) (hb5 : b.path.size ≤ 5000) (hu5 : u.path.size ≤ 5000) :
    Calls Tryd.prog 18 #[b.v, u.v] w fun e w' => e = .returned (.tuple #[(rsU b u).v, .int .i64 (rsE b u)]) ∧ Below w.heap.size w w' := by
  have hS := start3 w b u
  unfold U.v
  cases h1 : rtU b
  · have HR := hide (rs_bad (b := b) (u := u) (by rw [h1]; rfl))
    have H1 := hide h1
    clear h1
    go_enter Tryd.func18, Tryd.ntmps18
    go_wp2_with fail
    generalize World.alloc _ _ = W0 at hS ⊢
    have hra := refright_any b W0 hb
    unfold U.v at hra
    refine hra.mono ?_
    rintro e w1 ⟨rfl, hb1⟩
    rw [H1.out]
    have hS1 := hS.below hb1
    clear hb1 hS hra W0
    obtain ⟨z0, z1, z2, z3, z4, z5, -, zf⟩ := id hS1.z
    go_wp2_with fail
    refine bodyPost_ret (v := .tuple #[U0.v, .int .i64 1]) (by simp [results, Tryd.results18, go_sem, U0_v, z0, z1, z2, z3, z4, z5, zf]) rfl ⟨ret_ue HR.out.1.symm HR.out.2.symm, ?_⟩
    exact put6_below hS1.b (by omega) U0
  · cases h2 : rtU u
    · have HR := hide (rs_bad (b := b) (u := u) (by rw [h1, h2]; rfl))
      have H1 := hide h1
      have H2 := hide h2
      clear h1 h2
      go_enter Tryd.func18, Tryd.ntmps18
      go_wp2_with fail
      generalize World.alloc _ _ = W0 at hS ⊢
      have hra := refright_any b W0 hb
      unfold U.v at hra
      refine hra.mono ?_
      rintro e w1 ⟨rfl, hb1⟩
      rw [H1.out]
      have hS1 := hS.below hb1
      clear hb1 hS hra W0
      obtain ⟨y0, y1, y2, y3, y4, y5, -, -⟩ := id hS1.y
      go_wp2_with fail
      refine (refright_any u _ hu).mono ?_
      rintro e w2 ⟨rfl, hb2⟩
      rw [H2.out]
      have hS2 := hS1.below hb2
      clear hb2 hS1 y0 y1 y2 y3 y4 y5
      obtain ⟨z0, z1, z2, z3, z4, z5, -, zf⟩ := id hS2.z
      go_wp2_with fail
      refine bodyPost_ret (v := .tuple #[U0.v, .int .i64 1]) (by simp [results, Tryd.results18, go_sem, U0_v, z0, z1, z2, z3, z4, z5, zf]) rfl ⟨ret_ue HR.out.1.symm HR.out.2.symm, ?_⟩
      exact put6_below hS2.b (by omega) U0
    · cases h3 : b.abs
      · have HR := hide (rs_bad (b := b) (u := u) (by rw [h1, h2, h3]; rfl))
        have H1 := hide h1
        have H2 := hide h2
        clear h1 h2
        rw [h3] at hS
        go_enter Tryd.func18, Tryd.ntmps18
        go_wp2_with fail
        generalize World.alloc _ _ = W0 at hS ⊢
        have hra := refright_any b W0 hb
        unfold U.v at hra
        rw [h3] at hra
        refine hra.mono ?_
        rintro e w1 ⟨rfl, hb1⟩
        rw [H1.out]
        have hS1 := hS.below hb1
        clear hb1 hS hra W0
        obtain ⟨y0, y1, y2, y3, y4, y5, -, -⟩ := id hS1.y
        go_wp2_with fail
        refine (refright_any u _ hu).mono ?_
        rintro e w2 ⟨rfl, hb2⟩
        rw [H2.out]
        have hS2 := hS1.below hb2
        clear hb2 hS1 y0 y1 y2 y3 y4 y5
        have x0 := hS2.x.c0
        rw [h3] at x0
        obtain ⟨z0, z1, z2, z3, z4, z5, -, zf⟩ := id hS2.z
        go_wp2_with fail
        refine bodyPost_ret (v := .tuple #[U0.v, .int .i64 1]) (by simp [results, Tryd.results18, go_sem, U0_v, z0, z1, z2, z3, z4, z5, zf]) rfl ⟨ret_ue HR.out.1.symm HR.out.2.symm, ?_⟩
        exact put6_below hS2.b (by omega) U0
      · have hall : (rtU b && rtU u && b.abs) = true := by rw [h1, h2, h3]; rfl
        have HRB := hide (fun (C : U) (e : C = seen b u) (g : rtU C = false) => rs_rt_bad (b := b) (u := u) hall (by rw [← e]; exact g))
        have HRG := hide (fun (C : U) (e : C = seen b u) (g : rtU C = true) => rs_rt_good (b := b) (u := u) hall e g)
        have HSH := hide (seen_short hb hu hb5 hu5 (rt_place h1) (rt_place h2))
        have HUA : Hid (u.abs = true → pre [47] u.path.data.toList = true) := fun e => (rt_abs h2 e).2
        have H1 := hide h1
        have H2 := hide h2
        clear h1 h2 hall
        rw [h3] at hS
        go_enter Tryd.func18, Tryd.ntmps18
        go_wp2_with fail
        generalize World.alloc _ _ = W0 at hS ⊢
        have hra := refright_any b W0 hb
        unfold U.v at hra
        rw [h3] at hra
        refine hra.mono ?_
        rintro e w1 ⟨rfl, hb1⟩
        rw [H1.out]
        have hS1 := hS.below hb1
        clear hb1 hS hra W0
        obtain ⟨y0, y1, y2, y3, y4, y5, -, -⟩ := id hS1.y
        go_wp2_with fail
        refine (refright_any u _ hu).mono ?_
        rintro e w2 ⟨rfl, hb2⟩
        rw [H2.out]
        have hS2 := hS1.below hb2
        clear hb2 hS1 y0 y1 y2 y3 y4 y5
        obtain ⟨x0, x1, x2, x3, x4, x5, -, -⟩ := id hS2.x
        obtain ⟨y0, y1, y2, y3, y4, y5, -, -⟩ := id hS2.y
        rw [h3] at x0
        go_upto_region 4 with fail
        clear x0 x1 x2 x3 x4 x5 y0 y1 y2 y3 y4 y5
        have hT : Six (w2.alloc (.cells #[.bool true, .string b.host, .int .i64 b.port, .string ⟨#[]⟩, .bool u.asks, .string u.query] 23)) w2.heap.size ⟨true, b.host, b.port, ⟨#[]⟩, u.asks, u.query⟩ := Six.new w2 ⟨true, b.host, b.port, ⟨#[]⟩, u.asks, u.query⟩
        have hb3 : Below w2.heap.size w2 (w2.alloc (.cells #[.bool true, .string b.host, .int .i64 b.port, .string ⟨#[]⟩, .bool u.asks, .string u.query] 23)) := (Below.refl _ _).alloc (Nat.le_refl _) _
        have hS3 := hS2.below hb3
        have hN4 := hS2.z.lt
        clear hb3 hS2
        generalize w2.heap.size = N at hT hN4 ⊢
        generalize World.alloc _ _ = W3 at hT hS3 ⊢
        obtain ⟨x0, x1, x2, x3, x4, x5, -, -⟩ := id hS3.x
        obtain ⟨y0, y1, y2, y3, y4, y5, -, -⟩ := id hS3.y
        obtain ⟨t0, t1, t2, t3, t4, t5, -, tf⟩ := id hT
        rw [h3] at x0
        cases ha : u.abs
        · rw [ha] at y0
          by_cases h0 : u.path.data.toList = []
          · have he := empty_of h0
            cases hq : u.asks
            · rw [hq] at y4 t4
              go_wp2_with fail
              have hT5 : Six _ N ⟨true, b.host, b.port, b.path, b.asks, b.query⟩ := (((hT.s3 b.path).s4 b.asks).s5 b.query)
              have hS5 := (((hS3.cellN N 3 (.string b.path) hN4).cellN N 4 (.bool b.asks) hN4).cellN N 5 (.string b.query) hN4)
              clear hT hS3
              generalize World.setCell _ _ _ = W5 at hT5 hS5 ⊢
              have HO : Hid ((⟨true, b.host, b.port, b.path, b.asks, b.query⟩ : U) = seen b u) := by unfold Hid; rw [seen_base ha h0 hq]; exact u_ext h3.symm rfl rfl rfl rfl rfl
              rw [← HO.out] at HSH
              refine (refright_any ⟨true, b.host, b.port, b.path, b.asks, b.query⟩ _ HSH.out).mono ?_
              rintro e w4 ⟨rfl, hb4⟩
              have hS4 := hS5.below hb4
              have hT4 := hT5.below hb4
              clear hb4 hS5 hT5
              obtain ⟨z0, z1, z2, z3, z4, z5, -, zf⟩ := id hS4.z
              obtain ⟨t0, t1, t2, t3, t4, t5, -, -⟩ := id hT4
              cases hrt : rtU ⟨true, b.host, b.port, b.path, b.asks, b.query⟩
              · have HR := hide (HRB.out _ HO.out hrt)
                go_wp2_with fail
                refine bodyPost_ret (v := .tuple #[U0.v, .int .i64 2]) (by simp [results, Tryd.results18, go_sem, U0_v, z0, z1, z2, z3, z4, z5, zf]) rfl ⟨ret_ue HR.out.1.symm HR.out.2.symm, ?_⟩
                exact put6_below hS4.b (by omega) U0
              · have HR := hide (HRG.out _ HO.out hrt)
                go_wp2_with fail
                refine bodyPost_ret (v := .tuple #[U.v ⟨true, b.host, b.port, b.path, b.asks, b.query⟩, .int .i64 0]) (by simp [results, Tryd.results18, go_sem, U.v, z0, z1, z2, z3, z4, z5, zf]) rfl ⟨ret_ue HR.out.1.symm HR.out.2.symm, ?_⟩
                exact put6_below hS4.b (by omega) ⟨true, b.host, b.port, b.path, b.asks, b.query⟩
            · rw [hq] at y4 t4 hT
              go_wp2_with fail
              have hT5 : Six _ N ⟨true, b.host, b.port, b.path, true, u.query⟩ := (hT.s3 b.path)
              have hS5 := (hS3.cellN N 3 (.string b.path) hN4)
              clear hT hS3
              generalize World.setCell _ _ _ = W5 at hT5 hS5 ⊢
              have HO : Hid ((⟨true, b.host, b.port, b.path, true, u.query⟩ : U) = seen b u) := by unfold Hid; rw [seen_query ha h0 hq, h3]
              rw [← HO.out] at HSH
              refine (refright_any ⟨true, b.host, b.port, b.path, true, u.query⟩ _ HSH.out).mono ?_
              rintro e w4 ⟨rfl, hb4⟩
              have hS4 := hS5.below hb4
              have hT4 := hT5.below hb4
              clear hb4 hS5 hT5
              obtain ⟨z0, z1, z2, z3, z4, z5, -, zf⟩ := id hS4.z
              obtain ⟨t0, t1, t2, t3, t4, t5, -, -⟩ := id hT4
              cases hrt : rtU ⟨true, b.host, b.port, b.path, true, u.query⟩
              · have HR := hide (HRB.out _ HO.out hrt)
                go_wp2_with fail
                refine bodyPost_ret (v := .tuple #[U0.v, .int .i64 2]) (by simp [results, Tryd.results18, go_sem, U0_v, z0, z1, z2, z3, z4, z5, zf]) rfl ⟨ret_ue HR.out.1.symm HR.out.2.symm, ?_⟩
                exact put6_below hS4.b (by omega) U0
              · have HR := hide (HRG.out _ HO.out hrt)
                go_wp2_with fail
                refine bodyPost_ret (v := .tuple #[U.v ⟨true, b.host, b.port, b.path, true, u.query⟩, .int .i64 0]) (by simp [results, Tryd.results18, go_sem, U.v, z0, z1, z2, z3, z4, z5, zf]) rfl ⟨ret_ue HR.out.1.symm HR.out.2.symm, ?_⟩
                exact put6_below hS4.b (by omega) ⟨true, b.host, b.port, b.path, true, u.query⟩
          · have he := empty_not h0
            cases hsl : pre [47] u.path.data.toList
            · have hla : laI 47 b.path.data.toList = (lastN (neB 47) b.path.data.toList : Int) - 1 := rfl
              have hl := lastN_le (neB 47) b.path.data.toList
              rw [size_list] at hl
              have HFR := hide (from_rel (b := b.path) hsl)
              have hfs := fromS_size b.path u.path
              generalize lastN (neB 47) b.path.data.toList = k at hla hl HFR
              have HLA := hide hla
              have hk0 : (0 : Int) ≤ (k : Int) := by omega
              have hkb : (k : Int) ≤ (b.path.size : Int) := by omega
              have hwr : IntKind.i64.wrap ((k : Int) - 1 + 1) = k := by rw [show (k : Int) - 1 + 1 = k by omega]; exact i64_wrap_id _ (by omega) (by omega)
              have hwk : IntKind.i64.wrap (k : Int) = k := i64_wrap_id _ (by omega) (by omega)
              have hs1 : (b.path.extract 0 k).size ≤ 5000 := by rw [ByteArray.size_extract]; omega
              have hs2 : ¬ 9223372036854775807 < (b.path.extract 0 k).size + u.path.size := by omega
              have hs3 : ¬ 9223372036854775807 < k + u.path.size := by omega
              have HSL := hide hsl
              clear hla hsl
              go_wp2_with fail
              refine (beg_any u.path ⟨#[47]⟩ _ HSL.out _ (by omega) (by decide)).mono ?_
              rintro e w6 ⟨rfl, hw6⟩
              subst hw6
              go_wp2_with fail
              have hcs : (b.path.extract 0 k ++ u.path).size ≤ 10000 := by rw [ByteArray.size_append]; omega
              have hne1 : N ≠ w.heap.size := by omega
              have hne2 : N ≠ w.heap.size + 1 := by omega
              go_region_held3 (fun w' => w'.cell? ⟨w.heap.size, 3, none⟩ = some (.string b.path) ∧ w'.cell? ⟨w.heap.size + 1, 3, none⟩ = some (.string u.path))
                (first | exact ⟨x3, y3⟩ | exact ⟨cell_far x3 hne1, cell_far y3 hne2⟩)
                (first | (go_at_call 38; refine (last_is b.path 47 47 _ rfl HLA.out _ (by omega)).mono ?_; rintro e w6 ⟨rfl, rfl⟩) | (go_at_call 37; refine (refclean_any (b.path.extract 0 k ++ u.path) _ (by omega)).mono ?_; rintro e w6 ⟨rfl, rfl⟩))
              have hT5 : Six _ N ⟨true, b.host, b.port, cleanS (b.path.extract 0 k ++ u.path), u.asks, u.query⟩ := (hT.s3 (cleanS (b.path.extract 0 k ++ u.path))).drew
              have hS5 := (hS3.cellN N 3 (.string (cleanS (b.path.extract 0 k ++ u.path))) hN4).drew
              clear hT hS3
              go_wp2_with fail
              generalize World.drew _ = W5 at hT5 hS5 ⊢
              have HO : Hid ((⟨true, b.host, b.port, cleanS (b.path.extract 0 k ++ u.path), u.asks, u.query⟩ : U) = seen b u) := by unfold Hid; rw [seen_path ha h0, h3, HFR.out]
              rw [← HO.out] at HSH
              refine (refright_any ⟨true, b.host, b.port, cleanS (b.path.extract 0 k ++ u.path), u.asks, u.query⟩ _ HSH.out).mono ?_
              rintro e w4 ⟨rfl, hb4⟩
              have hS4 := hS5.below hb4
              have hT4 := hT5.below hb4
              clear hb4 hS5 hT5
              obtain ⟨z0, z1, z2, z3, z4, z5, -, zf⟩ := id hS4.z
              obtain ⟨t0, t1, t2, t3, t4, t5, -, -⟩ := id hT4
              cases hrt : rtU ⟨true, b.host, b.port, cleanS (b.path.extract 0 k ++ u.path), u.asks, u.query⟩
              · have HR := hide (HRB.out _ HO.out hrt)
                go_wp2_with fail
                refine bodyPost_ret (v := .tuple #[U0.v, .int .i64 2]) (by simp [results, Tryd.results18, go_sem, U0_v, z0, z1, z2, z3, z4, z5, zf]) rfl ⟨ret_ue HR.out.1.symm HR.out.2.symm, ?_⟩
                exact put6_below hS4.b (by omega) U0
              · have HR := hide (HRG.out _ HO.out hrt)
                go_wp2_with fail
                refine bodyPost_ret (v := .tuple #[U.v ⟨true, b.host, b.port, cleanS (b.path.extract 0 k ++ u.path), u.asks, u.query⟩, .int .i64 0]) (by simp [results, Tryd.results18, go_sem, U.v, z0, z1, z2, z3, z4, z5, zf]) rfl ⟨ret_ue HR.out.1.symm HR.out.2.symm, ?_⟩
                exact put6_below hS4.b (by omega) ⟨true, b.host, b.port, cleanS (b.path.extract 0 k ++ u.path), u.asks, u.query⟩
            · have HFR := hide (from_abs (b := b.path) hsl)
              have HSL := hide hsl
              clear hsl
              go_wp2_with fail
              refine (beg_any u.path ⟨#[47]⟩ _ HSL.out _ (by omega) (by decide)).mono ?_
              rintro e w6 ⟨rfl, hw6⟩
              subst hw6
              go_wp2_with fail
              refine (refclean_any u.path _ (by omega)).mono ?_
              rintro e w6 ⟨rfl, hw6⟩
              subst hw6
              go_wp2_with fail
              have hT5 : Six _ N ⟨true, b.host, b.port, cleanS u.path, u.asks, u.query⟩ := (hT.s3 (cleanS u.path))
              have hS5 := (hS3.cellN N 3 (.string (cleanS u.path)) hN4)
              clear hT hS3
              generalize World.setCell _ _ _ = W5 at hT5 hS5 ⊢
              have HO : Hid ((⟨true, b.host, b.port, cleanS u.path, u.asks, u.query⟩ : U) = seen b u) := by unfold Hid; rw [seen_path ha h0, h3, HFR.out]
              rw [← HO.out] at HSH
              refine (refright_any ⟨true, b.host, b.port, cleanS u.path, u.asks, u.query⟩ _ HSH.out).mono ?_
              rintro e w4 ⟨rfl, hb4⟩
              have hS4 := hS5.below hb4
              have hT4 := hT5.below hb4
              clear hb4 hS5 hT5
              obtain ⟨z0, z1, z2, z3, z4, z5, -, zf⟩ := id hS4.z
              obtain ⟨t0, t1, t2, t3, t4, t5, -, -⟩ := id hT4
              cases hrt : rtU ⟨true, b.host, b.port, cleanS u.path, u.asks, u.query⟩
              · have HR := hide (HRB.out _ HO.out hrt)
                go_wp2_with fail
                refine bodyPost_ret (v := .tuple #[U0.v, .int .i64 2]) (by simp [results, Tryd.results18, go_sem, U0_v, z0, z1, z2, z3, z4, z5, zf]) rfl ⟨ret_ue HR.out.1.symm HR.out.2.symm, ?_⟩
                exact put6_below hS4.b (by omega) U0
              · have HR := hide (HRG.out _ HO.out hrt)
                go_wp2_with fail
                refine bodyPost_ret (v := .tuple #[U.v ⟨true, b.host, b.port, cleanS u.path, u.asks, u.query⟩, .int .i64 0]) (by simp [results, Tryd.results18, go_sem, U.v, z0, z1, z2, z3, z4, z5, zf]) rfl ⟨ret_ue HR.out.1.symm HR.out.2.symm, ?_⟩
                exact put6_below hS4.b (by omega) ⟨true, b.host, b.port, cleanS u.path, u.asks, u.query⟩
        · rw [ha] at y0
          have hsl := HUA.out ha
          have h0 : u.path.data.toList ≠ [] := by intro e; rw [e] at hsl; cases hsl
          have he := empty_not h0
          have HSL := hide hsl
          clear hsl
          go_wp2_with fail
          refine (beg_any u.path ⟨#[47]⟩ _ HSL.out _ (by omega) (by decide)).mono ?_
          rintro e w6 ⟨rfl, hw6⟩
          subst hw6
          go_wp2_with fail
          refine (refclean_any u.path _ (by omega)).mono ?_
          rintro e w6 ⟨rfl, hw6⟩
          subst hw6
          go_wp2_with fail
          have hT5 : Six _ N ⟨true, u.host, u.port, cleanS u.path, u.asks, u.query⟩ := (((hT.s1 u.host).s2 u.port).s3 (cleanS u.path))
          have hS5 := (((hS3.cellN N 1 (.string u.host) hN4).cellN N 2 (.int .i64 u.port) hN4).cellN N 3 (.string (cleanS u.path)) hN4)
          clear hT hS3
          generalize World.setCell _ _ _ = W5 at hT5 hS5 ⊢
          have HO : Hid ((⟨true, u.host, u.port, cleanS u.path, u.asks, u.query⟩ : U) = seen b u) := by unfold Hid; rw [seen_abs ha]
          rw [← HO.out] at HSH
          refine (refright_any ⟨true, u.host, u.port, cleanS u.path, u.asks, u.query⟩ _ HSH.out).mono ?_
          rintro e w4 ⟨rfl, hb4⟩
          have hS4 := hS5.below hb4
          have hT4 := hT5.below hb4
          clear hb4 hS5 hT5
          obtain ⟨z0, z1, z2, z3, z4, z5, -, zf⟩ := id hS4.z
          obtain ⟨t0, t1, t2, t3, t4, t5, -, -⟩ := id hT4
          cases hrt : rtU ⟨true, u.host, u.port, cleanS u.path, u.asks, u.query⟩
          · have HR := hide (HRB.out _ HO.out hrt)
            go_wp2_with fail
            refine bodyPost_ret (v := .tuple #[U0.v, .int .i64 2]) (by simp [results, Tryd.results18, go_sem, U0_v, z0, z1, z2, z3, z4, z5, zf]) rfl ⟨ret_ue HR.out.1.symm HR.out.2.symm, ?_⟩
            exact put6_below hS4.b (by omega) U0
          · have HR := hide (HRG.out _ HO.out hrt)
            go_wp2_with fail
            refine bodyPost_ret (v := .tuple #[U.v ⟨true, u.host, u.port, cleanS u.path, u.asks, u.query⟩, .int .i64 0]) (by simp [results, Tryd.results18, go_sem, U.v, z0, z1, z2, z3, z4, z5, zf]) rfl ⟨ret_ue HR.out.1.symm HR.out.2.symm, ?_⟩
            exact put6_below hS4.b (by omega) ⟨true, u.host, u.port, cleanS u.path, u.asks, u.query⟩

end Go.Proofs.YtjegoceebdiaaaaDoor
