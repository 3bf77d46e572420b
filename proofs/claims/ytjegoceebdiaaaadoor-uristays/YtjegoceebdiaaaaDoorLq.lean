/- The walk of UriQueries. -/
import Derived.Test.YtjegoceebdiaaaaDoorFb
import Derived.Test.YtjegoceebdiaaaaDoorMy
import Derived.Test.YtjegoceebdiaaaaDoorRe
namespace Go.Proofs.YtjegoceebdiaaaaDoor
set_option linter.unusedVariables false
set_option linter.unusedSimpArgs false
open Go.RowKit

theorem wr_clean {u : U} (h : rtU u = true) : (wrL ⟨u.abs, u.host, u.port, cleanS u.path, u.asks, u.query⟩).length ≤ 500 := by
  have hl := rt_len h
  have hc := clean_len u.path.data.toList
  unfold wrL at hl ⊢
  simp only [cleanS_list]
  cases ha : u.abs <;> rw [ha] at hl <;> simp only [List.length_append, if_true, Bool.false_eq_true, if_false] at hl ⊢ <;> omega
theorem seen_self {u : U} (ha : u.abs = true) : seen u u = ⟨u.abs, u.host, u.port, cleanS u.path, u.asks, u.query⟩ := by
  rw [seen_abs ha, ha]
theorem rt_zero : rtU U0 = true := by decide +kernel
theorem seen_zero (u : U) : seen u U0 = u := seen_base rfl rfl rfl

set_option maxRecDepth 100000 in
set_option maxHeartbeats 2000000 in
theorem queries_walk (u : U) (s : ByteArray) (w : World) (h1 : u.host.size ≤ maxLen) (h2 : u.path.size ≤ maxLen) (h3 : u.query.size ≤ maxLen) (hs : s.size ≤ maxLen) (ht : Tabs w) :
    Calls Tryd.prog 7 #[u.v, .string s] w fun e w' => e = .returned (.bool true) ∧ Below w.heap.size w w' := by
  have hnew := Six.new w u
  have hbn : Below w.heap.size w (w.alloc (.cells u.cs.toArray 23)) := (Below.refl _ _).alloc (Nat.le_refl _) _
  unfold U.cs at hnew hbn
  have hfew := few_any u
  have hsx := few_cut s 100
  unfold maxLen at hs
  go_enter Tryd.func7, Tryd.ntmps7
  unfold U.v
  go_wp2_with fail
  generalize World.alloc _ _ = W0 at hnew hbn ⊢
  go_cut [1] (fun s1 wc => s1 = .string (s.extract 0 (min (s.size : Int) 100).toNat) ∧ Six wc w.heap.size (fewU u) ∧ Below w.heap.size w wc)
  case first =>
    obtain ⟨c0, c1, c2, c3, c4, c5, -, -⟩ := id hnew.drew
    refine wp_region_held_drew (S := (fun _ => True)) (by kernel_rfl) (trivial) (fun hHeld => ?_)
    refine wpAnyH_take (i := 2) (oi := _) (v := .string s) rfl (by kernel_rfl) (by kernel_rfl) (by kernel_rfl) (fun _ _ _ h => h) (Or.inl ⟨by rfl, fun wS hSw => by go_simp⟩) (by first | trivial | assumption) ?_
    simp only [Act.put, List.setIfInBounds_toArray, List.set_cons_zero, List.set_cons_succ]
    refine wpAnyH_take (i := 3) (oi := _) (v := .string s) rfl (by kernel_rfl) (by kernel_rfl) (by kernel_rfl) (fun _ _ _ h => h) (Or.inl ⟨by rfl, fun wS hSw => by go_simp⟩) (by first | trivial | assumption) ?_
    simp only [Act.put, List.setIfInBounds_toArray, List.set_cons_zero, List.set_cons_succ]
    refine wpAnyH_take (i := 4) (oi := _) (v := .int .i64 s.size) rfl (by kernel_rfl) (by kernel_rfl) (by kernel_rfl) (fun _ _ _ h => h) (Or.inl ⟨by rfl, fun wS hSw => by go_simp⟩) (by first | trivial | assumption) ?_
    simp only [Act.put, List.setIfInBounds_toArray, List.set_cons_zero, List.set_cons_succ]
    refine wpAnyH_take (i := 5) (oi := _) (v := .int .i64 (min (s.size : Int) 100)) rfl (by kernel_rfl) (by kernel_rfl) (by kernel_rfl) (fun _ _ _ h => h) (Or.inl ⟨by rfl, fun wS hSw => by go_simp⟩) (by first | trivial | assumption) ?_
    simp only [Act.put, List.setIfInBounds_toArray, List.set_cons_zero, List.set_cons_succ]
    refine wpAnyH_take (i := 6) (oi := _) (v := .string (s.extract 0 (min (s.size : Int) 100).toNat)) rfl (by kernel_rfl) (by kernel_rfl) (by kernel_rfl) (fun _ _ _ h => h) (Or.inl ⟨by rfl, fun wS hSw => by go_simp; intro hx; exfalso; have := hx (by omega); omega⟩) (by first | trivial | assumption) ?_
    simp only [Act.put, List.setIfInBounds_toArray, List.set_cons_zero, List.set_cons_succ]
    refine wpAnyH_ready (rs := [0]) (by kernel_rfl) (by simp) ?_
    refine AllReadyH.cons (o := _) rfl (fun K hK => ?_) AllReadyH.nil
    go_simp
    refine hK.out _ _ (trivial) (fun hHeld => ?_)
    clear hK K
    refine wpAnyH_ready (rs := [1]) (by kernel_rfl) (by simp) ?_
    refine AllReadyH.cons (o := _) rfl (fun K hK => ?_) AllReadyH.nil
    go_simp
    refine (hfew W0.drew h1 h2 h3).mono ?_
    rintro e w1 ⟨rfl, hb1⟩
    unfold U.v
    refine hK.out _ _ (trivial) (fun hHeld => ?_)
    clear hK K
    have hN1 := hnew.drew.below hb1
    have hB1 := (below_drew hbn).trans (hb1.mono (below_drew hbn).size)
    obtain ⟨d0, d1, d2, d3, d4, d5, -, df⟩ := id hN1
    refine wpAnyH_ready (rs := [7]) (by kernel_rfl) (by simp) ?_
    refine AllReadyH.cons (o := _) rfl (fun K hK => ?_) AllReadyH.nil
    go_simp
    refine hK.out _ _ (trivial) (fun hHeld => ?_)
    clear hK K
    refine wpAnyH_ready (rs := [8]) (by kernel_rfl) (by simp) ?_
    refine AllReadyH.cons (o := _) rfl (fun K hK => ?_) AllReadyH.nil
    go_simp
    refine hK.out _ _ (trivial) (fun hHeld => ?_)
    clear hK K
    refine wpAnyH_done (by kernel_rfl) ?_ _
    go_wp2_with fail
    go_meet
    exact ⟨rfl, put6_six hN1 (fewU u), put6_below hB1 (Nat.le_refl _) (fewU u)⟩
  case rest =>
    clear hnew hbn
    obtain ⟨rfl, hN, hB⟩ := hcut
    have hsh := few_short u
    have hsq : (s.extract 0 (min (s.size : Int) 100).toNat).size ≤ 100 := hsx
    clear hsx
    have hp5 := few_path u
    have hq5 := few_query u
    generalize fewU u = F at hN hsh hp5 hq5 ⊢
    generalize s.extract 0 (min (s.size : Int) 100).toNat = S at hsq ⊢
    clear hfew h1 h2 h3
    obtain ⟨c0, c1, c2, c3, c4, c5, -, -⟩ := id hN
    go_wp2_with fail
    refine (refright_any F _ hsh).mono ?_
    rintro e w1 ⟨rfl, hb1⟩
    have hN1 := hN.below hb1
    have hB1 := hB.trans (hb1.mono hB.size)
    clear hb1 hN hB c0 c1 c2 c3 c4 c5
    obtain ⟨c0, c1, c2, c3, c4, c5, -, -⟩ := id hN1
    cases hrt : rtU F
    · go_wp2_with fail
      refine (alive_any _).mono ?_
      rintro e w2 ⟨rfl, hb2⟩
      go_wp2_with fail
      go_ret
      exact ⟨rfl, hB1.trans (hb2.mono hB1.size)⟩
    · cases ha : F.abs
      · rw [ha] at c0
        go_wp2_with fail
        refine (alive_any _).mono ?_
        rintro e w2 ⟨rfl, hb2⟩
        go_wp2_with fail
        go_ret
        exact ⟨rfl, hB1.trans (hb2.mono hB1.size)⟩
      · rw [ha] at c0
        have hw1 := wr_clean hrt
        have hall0 : (rtU F && rtU U0 && F.abs) = true := by rw [hrt, rt_zero, ha]; rfl
        have hall1 : (rtU F && rtU F && F.abs) = true := by rw [hrt, ha]; rfl
        obtain ⟨a1, a2⟩ := rs_good hall0 (by rw [seen_zero]; have := rt_len hrt; omega)
        obtain ⟨b1, b2⟩ := rs_good hall1 (by rw [seen_self ha]; omega)
        rw [seen_zero] at a1
        rw [seen_self ha] at b1
        have hz : Short U0 := ⟨by show 0 ≤ 10000; omega, by show 0 ≤ 10000; omega, by show 0 ≤ 10000; omega⟩
        have hr0 := resolve_any F U0 w1 hsh hz (by omega) (by show 0 ≤ 5000; omega) (ht.below hB1)
        rw [a1, a2, U0_v] at hr0
        have HB := hide (And.intro b1 b2)
        have HRT := hide hrt
        have hcs := cleanS_size F.path
        clear a1 a2 b1 b2 hall0 hall1 hw1 hz
        have hFv : F.v = .agg #[.bool true, .string F.host, .int .i64 F.port, .string F.path, .bool F.asks, .string F.query] := by unfold U.v; rw [ha]
        rw [hFv] at hr0
        go_wp2_with fail
        refine hr0.mono ?_
        rintro e w2 ⟨rfl, hb2⟩
        have hN2 := hN1.below hb2
        have hB2 := hB1.trans (hb2.mono hB1.size)
        clear hb2 hN1 hB1 hr0 c0 c1 c2 c3 c4 c5
        have hA : Six (w2.alloc (.cells #[.bool true, .string F.host, .int .i64 F.port, .string F.path, .bool F.asks, .string F.query] 23)) w2.heap.size F := by have := Six.new w2 F; unfold U.cs at this; rwa [ha] at this
        have hBa : Below w2.heap.size w2 (w2.alloc (.cells #[.bool true, .string F.host, .int .i64 F.port, .string F.path, .bool F.asks, .string F.query] 23)) := (Below.refl _ _).alloc (Nat.le_refl _) _
        have hN3 := hN2.below hBa
        have hB3 := hB2.trans (hBa.mono hB2.size)
        have hlA : w.heap.size < w2.heap.size := hN2.lt
        clear hBa hN2 hB2
        go_upto_region 5 with fail
        generalize w2.heap.size = NA at hA hlA ⊢
        generalize World.alloc _ _ = W3 at hA hN3 hB3 ⊢
        have hr1 := resolve_any F F W3 hsh hsh (by omega) (by omega) (ht.below hB3)
        rw [HB.out.1, HB.out.2, hFv] at hr1
        obtain ⟨c0, c1, c2, c3, c4, c5, -, -⟩ := id hN3
        rw [ha] at c0
        go_wp2_with fail
        refine hr1.mono ?_
        rintro e w4 ⟨rfl, hb4⟩
        have hN4 := hN3.below hb4
        have hA4 := hA.below hb4
        have hB4 := hB3.trans (hb4.mono hB3.size)
        clear hb4 hN3 hA hB3 hr1 c0 c1 c2 c3 c4 c5
        unfold U.v
        rw [ha]
        have hG : Six (w4.alloc (.cells #[.bool true, .string F.host, .int .i64 F.port, .string (cleanS F.path), .bool F.asks, .string F.query] 23)) w4.heap.size ⟨true, F.host, F.port, cleanS F.path, F.asks, F.query⟩ := Six.new w4 ⟨true, F.host, F.port, cleanS F.path, F.asks, F.query⟩
        have hBg : Below w4.heap.size w4 (w4.alloc (.cells #[.bool true, .string F.host, .int .i64 F.port, .string (cleanS F.path), .bool F.asks, .string F.query] 23)) := (Below.refl _ _).alloc (Nat.le_refl _) _
        have hN5 := hN4.below hBg
        have hA5 := hA4.below hBg
        have hB5 := hB4.trans (hBg.mono hB4.size)
        have hlG : w.heap.size < w4.heap.size := hN4.lt
        clear hBg hN4 hA4 hB4
        go_upto_region 6 with fail
        generalize w4.heap.size = NG at hG hlG ⊢
        generalize World.alloc _ _ = W5 at hG hN5 hA5 hB5 ⊢
        obtain ⟨c0, c1, c2, c3, c4, c5, -, -⟩ := id hN5
        rw [ha] at c0
        have hC : Six (W5.alloc (.cells #[.bool true, .string F.host, .int .i64 F.port, .string F.path, .bool F.asks, .string F.query] 23)) W5.heap.size F := by have := Six.new W5 F; unfold U.cs at this; rwa [ha] at this
        have hBc : Below W5.heap.size W5 (W5.alloc (.cells #[.bool true, .string F.host, .int .i64 F.port, .string F.path, .bool F.asks, .string F.query] 23)) := (Below.refl _ _).alloc (Nat.le_refl _) _
        have hN6 := hN5.below hBc
        have hA6 := hA5.below hBc
        have hG6 := hG.below hBc
        have hB6 := hB5.trans (hBc.mono hB5.size)
        have hlC : w.heap.size < W5.heap.size := hN5.lt
        have hlC2 : NA < W5.heap.size := hA5.lt
        have hlC3 : NG < W5.heap.size := hG.lt
        clear hBc hN5 hA5 hG hB5
        go_upto_region 7 with fail
        clear c0 c1 c2 c3 c4 c5
        generalize W5.heap.size = NC at hC hlC hlC2 hlC3 ⊢
        generalize World.alloc _ _ = W6 at hC hN6 hA6 hG6 hB6 ⊢
        obtain ⟨c0, c1, c2, c3, c4, c5, -, -⟩ := id hN6
        rw [ha] at c0
        go_wp2_with fail
        refine (clean_any F.path _ (by omega)).mono ?_
        rintro e w7 ⟨rfl, hb7⟩
        have hN7 := hN6.below hb7
        have hA7 := hA6.below hb7
        have hG7 := hG6.below hb7
        have hC7 := hC.below hb7
        have hB7 := hB6.trans (hb7.mono hB6.size)
        clear hb7 hN6 hA6 hG6 hC hB6 c0 c1 c2 c3 c4 c5
        obtain ⟨d0, d1, d2, d3, d4, d5, -, df⟩ := id hC7
        go_upto_region 8 with fail
        clear d0 d1 d2 d3 d4 d5 df
        have hC8 : Six _ NC ⟨F.abs, F.host, F.port, cleanS F.path, F.asks, F.query⟩ := hC7.s3 (cleanS F.path)
        rw [ha] at hC8
        have hN8 := hN7.other NC 3 (.string (cleanS F.path)) (by omega)
        have hA8 := hA7.other NC 3 (.string (cleanS F.path)) (by omega)
        have hG8 := hG7.other NC 3 (.string (cleanS F.path)) (by omega)
        have hB8 : Below w.heap.size w (w7.setCell ⟨NC, 3, none⟩ (.string (cleanS F.path))) := hB7.setCell (show w.heap.size ≤ NC by omega) _
        clear hN7 hA7 hG7 hC7 hB7
        generalize World.setCell _ _ _ = W8 at hN8 hA8 hG8 hC8 hB8 ⊢
        obtain ⟨c0, c1, c2, c3, c4, c5, -, -⟩ := id hN8
        obtain ⟨a0, a1, a2, a3, a4, a5, -, -⟩ := id hA8
        obtain ⟨g0, g1, g2, g3, g4, g5, -, -⟩ := id hG8
        obtain ⟨d0, d1, d2, d3, d4, d5, -, -⟩ := id hC8
        rw [ha] at c0 a0
        go_wp2_with fail
        refine (alive_any _).mono ?_
        rintro e w9 ⟨rfl, hb9⟩
        have hN9 := hN8.below hb9
        have hC9 := hC8.below hb9
        have hB9 := hB8.trans (hb9.mono hB8.size)
        clear hb9 hN8 hA8 hG8 hC8 hB8 c0 c1 c2 c3 c4 c5 a0 a1 a2 a3 a4 a5 g0 g1 g2 g3 g4 g5 d0 d1 d2 d3 d4 d5
        obtain ⟨c0, c1, c2, c3, c4, c5, -, -⟩ := id hN9
        rw [ha] at c0
        have hVs : Short ⟨false, ⟨#[]⟩, 0, ⟨#[]⟩, true, S⟩ := ⟨by show 0 ≤ 10000; omega, by show 0 ≤ 10000; omega, by show S.size ≤ 10000; omega⟩
        have hr2 := resolve_any F ⟨false, ⟨#[]⟩, 0, ⟨#[]⟩, true, S⟩ w9 hsh hVs (by omega) (by show 0 ≤ 5000; omega) (ht.below hB9)
        rw [hFv] at hr2
        unfold U.v at hr2
        cases hv : rtU ⟨false, ⟨#[]⟩, 0, ⟨#[]⟩, true, S⟩
        · obtain ⟨a1, a2⟩ := rs_bad (b := F) (u := ⟨false, ⟨#[]⟩, 0, ⟨#[]⟩, true, S⟩) (by rw [hv]; simp)
          rw [a1, a2] at hr2
          clear a1 a2
          have hr3 : Calls Tryd.prog 17 #[.agg #[.bool true, .string F.host, .int .i64 F.port, .string F.path, .bool F.asks, .string F.query], .agg #[.bool false, .string ⟨#[]⟩, .int .i64 0, .string ⟨#[]⟩, .bool true, .string S]] w9 fun e w' => e = .returned (.tuple #[.agg #[.bool false, .string ⟨#[]⟩, .int .i64 0, .string ⟨#[]⟩, .bool false, .string ⟨#[]⟩], .int .i64 1]) ∧ Below w9.heap.size w9 w' := hr2
          clear hr2
          have HV := hide hv
          clear hv
          go_wp2_with fail
          refine hr3.mono ?_
          rintro e w10 ⟨rfl, hb10⟩
          have hBt := hB9.trans (hb10.mono hB9.size)
          have hBu : Below w.heap.size w (w10.alloc (.cells #[.bool false, .string ⟨#[]⟩, .int .i64 0, .string ⟨#[]⟩, .bool false, .string ⟨#[]⟩] 23)) := hBt.alloc hBt.size _
          clear hb10 hN9 hC9 hB9 hBt hr3 c0 c1 c2 c3 c4 c5
          go_wp2_with fail
          generalize World.alloc _ _ = W11 at hBu ⊢
          refine (refright_any ⟨false, ⟨#[]⟩, 0, ⟨#[]⟩, true, S⟩ _ hVs).mono ?_
          rw [HV.out]
          rintro e w12 ⟨rfl, hb12⟩
          go_wp2_with fail
          go_ret
          exact ⟨rfl, hBu.trans (hb12.mono hBu.size)⟩
        · have hall2 : (rtU F && rtU ⟨false, ⟨#[]⟩, 0, ⟨#[]⟩, true, S⟩ && F.abs) = true := by rw [HRT.out, hv, ha]; rfl
          have hsq2 : seen F ⟨false, ⟨#[]⟩, 0, ⟨#[]⟩, true, S⟩ = ⟨true, F.host, F.port, F.path, true, S⟩ := by rw [seen_query rfl rfl rfl, ha]
          have HV := hide hv
          by_cases hlen : 500 < (wrL ⟨true, F.host, F.port, F.path, true, S⟩).length
          · obtain ⟨a1, a2⟩ := rs_long hall2 (by rw [hsq2]; exact hlen)
            rw [a1, a2] at hr2
            have hr3 : Calls Tryd.prog 17 #[.agg #[.bool true, .string F.host, .int .i64 F.port, .string F.path, .bool F.asks, .string F.query], .agg #[.bool false, .string ⟨#[]⟩, .int .i64 0, .string ⟨#[]⟩, .bool true, .string S]] w9 fun e w' => e = .returned (.tuple #[.agg #[.bool false, .string ⟨#[]⟩, .int .i64 0, .string ⟨#[]⟩, .bool false, .string ⟨#[]⟩], .int .i64 2]) ∧ Below w9.heap.size w9 w' := hr2
            clear hr2 a1 a2 hall2 hsq2 hlen hv
            go_wp2_with fail
            refine hr3.mono ?_
            rintro e w10 ⟨rfl, hb10⟩
            have hN10 := hN9.below hb10
            have hC10 := hC9.below hb10
            have hB10 := hB9.trans (hb10.mono hB9.size)
            have hBu : Below w10.heap.size w10 (w10.alloc (.cells #[.bool false, .string ⟨#[]⟩, .int .i64 0, .string ⟨#[]⟩, .bool false, .string ⟨#[]⟩] 23)) := (Below.refl _ _).alloc (Nat.le_refl _) _
            have hN11 := hN10.below hBu
            have hC11 := hC10.below hBu
            have hB11 := hB10.trans (hBu.mono hB10.size)
            clear hb10 hN9 hC9 hB9 hBu hr3 hN10 hC10 hB10 c0 c1 c2 c3 c4 c5
            go_wp2_with fail
            generalize World.alloc _ _ = W11 at hN11 hC11 hB11 ⊢
            refine (refright_any ⟨false, ⟨#[]⟩, 0, ⟨#[]⟩, true, S⟩ _ hVs).mono ?_
            rw [HV.out]
            rintro e w12 ⟨rfl, hb12⟩
            have hN12 := hN11.below hb12
            have hC12 := hC11.below hb12
            have hB12 := hB11.trans (hb12.mono hB11.size)
            clear hb12 hN11 hC11 hB11
            obtain ⟨c0, c1, c2, c3, c4, c5, -, -⟩ := id hN12
            obtain ⟨d0, d1, d2, d3, d4, d5, -, df⟩ := id hC12
            rw [ha] at c0
            go_wp2_with fail
            go_ret
            refine ⟨rfl, ?_⟩
            exact below_one (below_one (put6_below hB12 (show w.heap.size ≤ NC by omega) ⟨true, F.host, F.port, F.path, F.asks, F.query⟩) NC 4 (.bool true) (by omega)) NC 5 (.string S) (by omega)
          · obtain ⟨a1, a2⟩ := rs_good hall2 (by rw [hsq2]; exact hlen)
            rw [a1, a2, hsq2] at hr2
            have hr3 : Calls Tryd.prog 17 #[.agg #[.bool true, .string F.host, .int .i64 F.port, .string F.path, .bool F.asks, .string F.query], .agg #[.bool false, .string ⟨#[]⟩, .int .i64 0, .string ⟨#[]⟩, .bool true, .string S]] w9 fun e w' => e = .returned (.tuple #[.agg #[.bool true, .string F.host, .int .i64 F.port, .string F.path, .bool true, .string S], .int .i64 0]) ∧ Below w9.heap.size w9 w' := hr2
            clear hr2 a1 a2 hall2 hsq2 hlen hv
            go_wp2_with fail
            refine hr3.mono ?_
            rintro e w10 ⟨rfl, hb10⟩
            have hN10 := hN9.below hb10
            have hC10 := hC9.below hb10
            have hB10 := hB9.trans (hb10.mono hB9.size)
            have hD : Six (w10.alloc (.cells #[.bool true, .string F.host, .int .i64 F.port, .string F.path, .bool true, .string S] 23)) w10.heap.size ⟨true, F.host, F.port, F.path, true, S⟩ := Six.new w10 ⟨true, F.host, F.port, F.path, true, S⟩
            have hBu : Below w10.heap.size w10 (w10.alloc (.cells #[.bool true, .string F.host, .int .i64 F.port, .string F.path, .bool true, .string S] 23)) := (Below.refl _ _).alloc (Nat.le_refl _) _
            have hN11 := hN10.below hBu
            have hC11 := hC10.below hBu
            have hB11 := hB10.trans (hBu.mono hB10.size)
            have hlD : NC < w10.heap.size := hC10.lt
            clear hb10 hN9 hC9 hB9 hBu hr3 hN10 hC10 hB10 c0 c1 c2 c3 c4 c5
            go_wp2_with fail
            generalize w10.heap.size = ND at hD hlD ⊢
            generalize World.alloc _ _ = W11 at hN11 hC11 hB11 hD ⊢
            refine (refright_any ⟨false, ⟨#[]⟩, 0, ⟨#[]⟩, true, S⟩ _ hVs).mono ?_
            rw [HV.out]
            rintro e w12 ⟨rfl, hb12⟩
            have hN12 := hN11.below hb12
            have hC12 := hC11.below hb12
            have hD12 := hD.below hb12
            have hB12 := hB11.trans (hb12.mono hB11.size)
            clear hb12 hN11 hC11 hB11 hD
            obtain ⟨c0, c1, c2, c3, c4, c5, -, -⟩ := id hN12
            obtain ⟨d0, d1, d2, d3, d4, d5, -, df⟩ := id hC12
            obtain ⟨e0, e1, e2, e3, e4, e5, -, -⟩ := id hD12
            rw [ha] at c0
            go_upto_region 15 with fail
            clear c0 c1 c2 c3 c4 c5 d0 d1 d2 d3 d4 d5 df e0 e1 e2 e3 e4 e5
            have hC15 := ((put6_six hC12 ⟨true, F.host, F.port, F.path, F.asks, F.query⟩).s4 true).s5 S
            have hD15 := ((put6_other (M := NC) hD12 ⟨true, F.host, F.port, F.path, F.asks, F.query⟩ (by omega)).other NC 4 (.bool true) (by omega)).other NC 5 (.string S) (by omega)
            have hB15 := below_one (below_one (put6_below hB12 (show w.heap.size ≤ NC by omega) ⟨true, F.host, F.port, F.path, F.asks, F.query⟩) NC 4 (.bool true) (by omega)) NC 5 (.string S) (by omega)
            dsimp only [put6] at hC15 hD15 hB15
            generalize World.setCell _ _ _ = W15 at hC15 hD15 hB15 ⊢
            obtain ⟨d0, d1, d2, d3, d4, d5, -, -⟩ := id hC15
            obtain ⟨e0, e1, e2, e3, e4, e5, -, -⟩ := id hD15
            go_wp2_with fail
            go_ret
            exact ⟨by simp, hB15⟩

end Go.Proofs.YtjegoceebdiaaaaDoor
