/- The walk of UriStays. -/
import Derived.Test.YtjegoceebdiaaaaDoorFb
import Derived.Test.YtjegoceebdiaaaaDoorMs
import Derived.Test.YtjegoceebdiaaaaDoorSo
import Derived.Test.YtjegoceebdiaaaaDoorLq
namespace Go.Proofs.YtjegoceebdiaaaaDoor
set_option linter.unusedVariables false
set_option linter.unusedSimpArgs false
open Go.RowKit

theorem three_new (w : World) (b u o : U) : Six (((w.alloc (.cells b.cs.toArray 23)).alloc (.cells u.cs.toArray 23)).alloc (.cells o.cs.toArray 23)) w.heap.size b ∧ Six (((w.alloc (.cells b.cs.toArray 23)).alloc (.cells u.cs.toArray 23)).alloc (.cells o.cs.toArray 23)) (w.heap.size + 1) u ∧ Six (((w.alloc (.cells b.cs.toArray 23)).alloc (.cells u.cs.toArray 23)).alloc (.cells o.cs.toArray 23)) (w.heap.size + 2) o ∧ Below w.heap.size w (((w.alloc (.cells b.cs.toArray 23)).alloc (.cells u.cs.toArray 23)).alloc (.cells o.cs.toArray 23)) := by
  have e1 : (w.alloc (.cells b.cs.toArray 23)).heap.size = w.heap.size + 1 := by simp
  have e2 : ((w.alloc (.cells b.cs.toArray 23)).alloc (.cells u.cs.toArray 23)).heap.size = w.heap.size + 2 := by simp
  have hx := ((Six.new w b).alloc (.cells u.cs.toArray 23)).alloc (.cells o.cs.toArray 23)
  have hy := (Six.new (w.alloc (.cells b.cs.toArray 23)) u).alloc (.cells o.cs.toArray 23)
  have hz := Six.new ((w.alloc (.cells b.cs.toArray 23)).alloc (.cells u.cs.toArray 23)) o
  rw [e1] at hy
  rw [e2] at hz
  exact ⟨hx, hy, hz, (((Below.refl _ _).alloc (Nat.le_refl _) _).alloc (by rw [e1]; omega) _).alloc (by rw [e2]; omega) _⟩

theorem rt_short {u : U} (h : rtU u = true) (ha : u.abs = true) : u.host.size ≤ 500 ∧ u.path.size ≤ 500 ∧ u.query.size ≤ 500 := by
  have hl := rt_len h
  obtain ⟨-, hq, -, -⟩ := rt_path h
  unfold wrL at hl
  rw [ha, if_pos rfl] at hl
  simp only [List.length_append, size_list] at hl
  refine ⟨by omega, by omega, ?_⟩
  rcases hq with hq | hq
  · rw [hq, qryL, if_pos rfl, List.length_cons, size_list] at hl; omega
  · rw [← size_list, hq]; simp

theorem stays_cases (b u : U) : (∃ n : Int, (n == 0) = false ∧ rsU b u = U0 ∧ rsE b u = n) ∨ ∃ a : U, rsU b u = a ∧ rsE b u = 0 ∧ rtU a = true ∧ a.abs = true ∧ (u.path.data.toList ≠ [] → cleanS a.path = a.path) := by
  cases hall : (rtU b && rtU u && b.abs)
  · left; obtain ⟨a1, a2⟩ := rs_bad hall; exact ⟨1, rfl, a1, a2⟩
  · by_cases hlen : 500 < (wrL (seen b u)).length
    · left; obtain ⟨a1, a2⟩ := rs_long hall hlen; exact ⟨2, rfl, a1, a2⟩
    · right
      obtain ⟨a1, a2⟩ := rs_good hall hlen
      simp only [Bool.and_eq_true] at hall
      obtain ⟨⟨hb, hu⟩, ha⟩ := hall
      obtain ⟨r1, r2⟩ := seen_right hb hu ha
      exact ⟨_, a1, a2, by rw [r1]; simp; omega, r2, seen_clean hb hu ha⟩

theorem again_good {o a : U} (ho : rtU o = true) (hoa : o.abs = true) (h : rtU a = true) (ha : a.abs = true) : rsU o a = againU a ∧ rsE o a = 0 := by
  have hw := wr_clean h
  have hall : (rtU o && rtU a && o.abs) = true := by rw [ho, h, hoa]; rfl
  obtain ⟨a1, a2⟩ := rs_good hall (by rw [seen_again ha]; unfold againU; omega)
  exact ⟨by rw [a1, seen_again ha], a2⟩

theorem beq_not {s : ByteArray} {l : List UInt8} (h : s.data.toList ≠ l) : (s.toList == l) = false := by
  rw [beq_eq_false_iff_ne, Lib.toList_data]; exact h

theorem cells_steps (s : ByteArray) (w : World) (k : Nat) (h : k < (steps s).length) : ∃ p, (steps s)[k]? = some p ∧ (w.alloc (.cells ((steps s).map Value.string).toArray 9)).cell? ⟨w.heap.size, k, none⟩ = some (.string p) := by
  refine ⟨(steps s)[k], List.getElem?_eq_getElem h, ?_⟩
  rw [World.cell?_alloc_new]
  simp [h]

set_option maxRecDepth 100000 in
set_option maxHeartbeats 2000000 in
theorem stays_walk (b u o : U) (s : ByteArray) (w : World) (h1 : b.host.size ≤ maxLen) (h2 : b.path.size ≤ maxLen) (h3 : b.query.size ≤ maxLen) (g1 : u.host.size ≤ maxLen) (g2 : u.path.size ≤ maxLen) (g3 : u.query.size ≤ maxLen)
    (k1 : o.host.size ≤ maxLen) (k2 : o.path.size ≤ maxLen) (k3 : o.query.size ≤ maxLen) (hs : s.size ≤ maxLen) (ht : Tabs w) :
    Calls Tryd.prog 6 #[b.v, u.v, o.v, .string s] w fun e w' => e = .returned (.bool true) ∧ Below w.heap.size w w' := by
  obtain ⟨hb0, hu0, ho0, hB0⟩ := three_new w b u o
  unfold U.cs at hb0 hu0 ho0 hB0
  have hfb := few_any b
  have hfu := few_any u
  have hfo := few_any o
  have hsx := few_cut s 300
  unfold maxLen at hs
  go_enter Tryd.func6, Tryd.ntmps6
  unfold U.v
  go_upto_region 1 with fail
  generalize World.alloc _ _ = W0 at hb0 hu0 ho0 hB0 ⊢
  go_cut [3] (fun s3 wc => s3 = .string (s.extract 0 (min (s.size : Int) 300).toNat) ∧ Six wc w.heap.size (fewU b) ∧ Six wc (w.heap.size + 1) (fewU u) ∧ Six wc (w.heap.size + 2) (fewU o) ∧ Below w.heap.size w wc)
  case first =>
    refine region_upTo 1 3 5 (fun w' => Six w' w.heap.size b) (fun w' => Six w' (w.heap.size + 1) u) (fun w' => Six w' (w.heap.size + 2) o) (by kernel_rfl) ⟨hb0.drew, hu0.drew, ho0.drew⟩ (fun hHeld => ?_)
    refine upTo_take 10 (S := fun _ => True) (i := 6) (oi := _) (v := .string s) rfl (by kernel_rfl) (by kernel_rfl) (by kernel_rfl) (fun _ _ _ h => h) (by decide) (by kernel_rfl) (by kernel_rfl) (fun _ _ _ _ => trivial) hHeld (Or.inl ⟨by rfl, fun wS hSw => by go_simp⟩) (fun hHeld => ?_)
    simp only [Act.put, List.setIfInBounds_toArray, List.set_cons_zero, List.set_cons_succ]
    refine upTo_take 8 (S := fun _ => True) (i := 7) (oi := _) (v := .string s) rfl (by kernel_rfl) (by kernel_rfl) (by kernel_rfl) (fun _ _ _ h => h) (by decide) (by kernel_rfl) (by kernel_rfl) (fun _ _ _ _ => trivial) hHeld (Or.inl ⟨by rfl, fun wS hSw => by go_simp⟩) (fun hHeld => ?_)
    simp only [Act.put, List.setIfInBounds_toArray, List.set_cons_zero, List.set_cons_succ]
    refine upTo_take 9 (S := fun _ => True) (i := 8) (oi := _) (v := .int .i64 s.size) rfl (by kernel_rfl) (by kernel_rfl) (by kernel_rfl) (fun _ _ _ h => h) (by decide) (by kernel_rfl) (by kernel_rfl) (fun _ _ _ _ => trivial) hHeld (Or.inl ⟨by rfl, fun wS hSw => by go_simp⟩) (fun hHeld => ?_)
    simp only [Act.put, List.setIfInBounds_toArray, List.set_cons_zero, List.set_cons_succ]
    refine upTo_take 10 (S := fun _ => True) (i := 9) (oi := _) (v := .int .i64 (min (s.size : Int) 300)) rfl (by kernel_rfl) (by kernel_rfl) (by kernel_rfl) (fun _ _ _ h => h) (by decide) (by kernel_rfl) (by kernel_rfl) (fun _ _ _ _ => trivial) hHeld (Or.inl ⟨by rfl, fun wS hSw => by go_simp⟩) (fun hHeld => ?_)
    simp only [Act.put, List.setIfInBounds_toArray, List.set_cons_zero, List.set_cons_succ]
    refine upTo_take 14 (S := fun _ => True) (i := 10) (oi := _) (v := .string (s.extract 0 (min (s.size : Int) 300).toNat)) rfl (by kernel_rfl) (by kernel_rfl) (by kernel_rfl) (fun _ _ _ h => h) (by decide) (by kernel_rfl) (by kernel_rfl) (fun _ _ _ _ => trivial) hHeld (Or.inl ⟨by rfl, fun wS hSw => by go_simp; intro hx; exfalso; have := hx (by omega); omega⟩) (fun hHeld => ?_)
    simp only [Act.put, List.setIfInBounds_toArray, List.set_cons_zero, List.set_cons_succ]
    refine upTo_take 1 (S := (fun w' => Six w' w.heap.size b)) (i := 0) (oi := _) (v := .agg #[.bool b.abs, .string b.host, .int .i64 b.port, .string b.path, .bool b.asks, .string b.query]) rfl (by kernel_rfl) (by kernel_rfl) (by kernel_rfl) (fun _ _ _ h => h) (by decide) (by kernel_rfl) (by kernel_rfl) (fun l w1 hh g => hh.h1 g) hHeld (Or.inl ⟨by rfl, fun wS hSw => by obtain ⟨c0, c1, c2, c3, c4, c5, -, -⟩ := (show Six wS w.heap.size b from hSw); go_simp⟩) (fun hHeld => ?_)
    simp only [Act.put, List.setIfInBounds_toArray, List.set_cons_zero, List.set_cons_succ]
    refine upTo_take 3 (S := (fun w' => Six w' (w.heap.size + 1) u)) (i := 2) (oi := _) (v := .agg #[.bool u.abs, .string u.host, .int .i64 u.port, .string u.path, .bool u.asks, .string u.query]) rfl (by kernel_rfl) (by kernel_rfl) (by kernel_rfl) (fun _ _ _ h => h) (by decide) (by kernel_rfl) (by kernel_rfl) (fun l w1 hh g => hh.h2 g) hHeld (Or.inl ⟨by rfl, fun wS hSw => by obtain ⟨c0, c1, c2, c3, c4, c5, -, -⟩ := (show Six wS (w.heap.size + 1) u from hSw); go_simp⟩) (fun hHeld => ?_)
    simp only [Act.put, List.setIfInBounds_toArray, List.set_cons_zero, List.set_cons_succ]
    refine upTo_take 5 (S := (fun w' => Six w' (w.heap.size + 2) o)) (i := 4) (oi := _) (v := .agg #[.bool o.abs, .string o.host, .int .i64 o.port, .string o.path, .bool o.asks, .string o.query]) rfl (by kernel_rfl) (by kernel_rfl) (by kernel_rfl) (fun _ _ _ h => h) (by decide) (by kernel_rfl) (by kernel_rfl) (fun l w1 hh g => hh.h3 g) hHeld (Or.inl ⟨by rfl, fun wS hSw => by obtain ⟨c0, c1, c2, c3, c4, c5, -, -⟩ := (show Six wS (w.heap.size + 2) o from hSw); go_simp⟩) (fun hHeld => ?_)
    simp only [Act.put, List.setIfInBounds_toArray, List.set_cons_zero, List.set_cons_succ]
    refine upTo_run (i := 1) (o := _) (by kernel_rfl) rfl (fun K hK => ?_)
    go_simp
    refine (hfb W0.drew h1 h2 h3).mono ?_
    rintro e w1 ⟨rfl, hq1⟩
    unfold U.v
    have hx1 := hb0.drew.below hq1
    have hy1 := hu0.drew.below hq1
    have hz1 := ho0.drew.below hq1
    have hB1 := (below_drew hB0).trans (hq1.mono (below_drew hB0).size)
    refine hK.out _ _ ⟨fun g => Bool.noConfusion (show true = false from g), fun _ => hy1, fun _ => hz1⟩ (fun hHeld => ?_)
    clear hK K hq1
    refine upTo_run (i := 3) (o := _) (by kernel_rfl) rfl (fun K hK => ?_)
    go_simp
    refine (hfu w1 g1 g2 g3).mono ?_
    rintro e w2 ⟨rfl, hq2⟩
    unfold U.v
    have hx2 := hx1.below hq2
    have hy2 := hy1.below hq2
    have hz2 := hz1.below hq2
    have hB2 := hB1.trans (hq2.mono hB1.size)
    refine hK.out _ _ ⟨fun g => Bool.noConfusion (show true = false from g), fun g => Bool.noConfusion (show true = false from g), fun _ => hz2⟩ (fun hHeld => ?_)
    clear hK K hq2 hx1 hy1 hz1 hB1
    refine upTo_run (i := 5) (o := _) (by kernel_rfl) rfl (fun K hK => ?_)
    go_simp
    refine (hfo w2 k1 k2 k3).mono ?_
    rintro e w3 ⟨rfl, hq3⟩
    unfold U.v
    have hx3 := hx2.below hq3
    have hy3 := hy2.below hq3
    have hz3 := hz2.below hq3
    have hB3 := hB2.trans (hq3.mono hB2.size)
    refine hK.out _ _ ⟨fun g => Bool.noConfusion (show true = false from g), fun g => Bool.noConfusion (show true = false from g), fun g => Bool.noConfusion (show true = false from g)⟩ (fun hHeld => ?_)
    clear hK K hq3 hx2 hy2 hz2 hB2
    obtain ⟨x0, x1, x2, x3, x4, x5, -, xf⟩ := id hx3
    refine upTo_run (i := 11) (o := _) (by kernel_rfl) rfl (fun K hK => ?_)
    go_simp
    refine hK.out _ _ (⟨fun g => Bool.noConfusion (show true = false from g), fun g => Bool.noConfusion (show true = false from g), fun g => Bool.noConfusion (show true = false from g)⟩) (fun hHeld => ?_)
    clear hK K
    have hx4 := put6_six hx3 (fewU b)
    have hy4 := put6_other (M := w.heap.size) hy3 (fewU b) (by omega)
    have hz4 := put6_other (M := w.heap.size) hz3 (fewU b) (by omega)
    have hB4 := put6_below hB3 (Nat.le_refl _) (fewU b)
    dsimp only [put6] at hx4 hy4 hz4 hB4
    clear x0 x1 x2 x3 x4 x5 xf hx3 hy3 hz3 hB3 hHeld
    generalize World.setCell _ _ _ = W4 at hx4 hy4 hz4 hB4 ⊢
    obtain ⟨y0, y1, y2, y3, y4, y5, -, yf⟩ := id hy4
    refine upTo_run (i := 12) (o := _) (by kernel_rfl) rfl (fun K hK => ?_)
    go_simp
    refine hK.out _ _ (⟨fun g => Bool.noConfusion (show true = false from g), fun g => Bool.noConfusion (show true = false from g), fun g => Bool.noConfusion (show true = false from g)⟩) (fun hHeld => ?_)
    clear hK K
    have hx5 := put6_other (M := w.heap.size + 1) hx4 (fewU u) (by omega)
    have hy5 := put6_six hy4 (fewU u)
    have hz5 := put6_other (M := w.heap.size + 1) hz4 (fewU u) (by omega)
    have hB5 := put6_below (N := w.heap.size + 1) hB4 (by omega) (fewU u)
    dsimp only [put6] at hx5 hy5 hz5 hB5
    clear y0 y1 y2 y3 y4 y5 yf hx4 hy4 hz4 hB4 hHeld
    generalize World.setCell _ _ _ = W5 at hx5 hy5 hz5 hB5 ⊢
    obtain ⟨z0, z1, z2, z3, z4, z5, -, zf⟩ := id hz5
    refine upTo_run (i := 13) (o := _) (by kernel_rfl) rfl (fun K hK => ?_)
    go_simp
    refine hK.out _ _ (⟨fun g => Bool.noConfusion (show true = false from g), fun g => Bool.noConfusion (show true = false from g), fun g => Bool.noConfusion (show true = false from g)⟩) (fun hHeld => ?_)
    clear hK K
    have hx6 := put6_other (M := w.heap.size + 2) hx5 (fewU o) (by omega)
    have hy6 := put6_other (M := w.heap.size + 2) hy5 (fewU o) (by omega)
    have hz6 := put6_six hz5 (fewU o)
    have hB6 := put6_below (N := w.heap.size + 2) hB5 (by omega) (fewU o)
    dsimp only [put6] at hx6 hy6 hz6 hB6
    clear z0 z1 z2 z3 z4 z5 zf hx5 hy5 hz5 hB5 hHeld
    generalize World.setCell _ _ _ = W6 at hx6 hy6 hz6 hB6 ⊢
    refine upTo_run (i := 14) (o := _) (by kernel_rfl) rfl (fun K hK => ?_)
    go_simp
    refine hK.out _ _ (⟨fun g => Bool.noConfusion (show true = false from g), fun g => Bool.noConfusion (show true = false from g), fun g => Bool.noConfusion (show true = false from g)⟩) (fun hHeld => ?_)
    clear hK K
    refine upTo_done (by kernel_rfl) ?_ _
    go_wp2_with fail
    go_meet
    exact ⟨rfl, hx6, hy6, hz6, hB6⟩
  case rest =>
    clear hb0 hu0 ho0 hB0 hfb hfu hfo h1 h2 h3 g1 g2 g3 k1 k2 k3
    obtain ⟨rfl, hX, hY, hZ, hB⟩ := hcut
    have sF := few_short b
    have sG := few_short u
    have sO := few_short o
    have pF := few_path b
    have pG := few_path u
    have pO := few_path o
    have hsz : (s.extract 0 (min (s.size : Int) 300).toNat).size ≤ 300 := hsx
    clear hsx
    generalize fewU b = F at hX sF pF
    generalize fewU u = G at hY sG pG
    generalize fewU o = O at hZ sO pO
    generalize s.extract 0 (min (s.size : Int) 300).toNat = S at hsz ⊢
    clear hs
    have hcs := cleanS_size S
    go_wp2_with fail
    refine (clean_any S _ (by omega)).mono ?_
    rintro e w1 ⟨rfl, hb1⟩
    have hX1 := hX.below hb1
    have hY1 := hY.below hb1
    have hZ1 := hZ.below hb1
    have hB1 := hB.trans (hb1.mono hB.size)
    clear hb1 hX hY hZ hB
    go_upto_region 3 with fail
    go_cut [32, 33, 34] (fun s32 s33 s34 wd => ∃ (N a n : Nat), s32 = .slice (some ⟨N, a, none⟩) n n ∧ s33 = .int .i64 n ∧ s34 = .int .i64 0 ∧ n ≤ 300 ∧ Hid (∀ k, k < n → ∃ p : ByteArray, wd.cell? ⟨N, a + k, none⟩ = some (.string p) ∧ (pre [47] S.data.toList = true → p.data.toList ≠ [46] ∧ p.data.toList ≠ [46, 46])) ∧ Six wd w.heap.size F ∧ Six wd (w.heap.size + 1) G ∧ Six wd (w.heap.size + 2) O ∧ Below w.heap.size w wd)
    case first =>
      have hsp := split_any (cleanS S) w1 (by omega)
      obtain ⟨n, hn⟩ : ∃ n, (steps (cleanS S)).length = n + 1 := ⟨_, steps_len _⟩
      have hnle : n ≤ 300 := by have := steps_len (cleanS S); have := Lib.countB_le ⟨#[47]⟩ (by decide) (cleanS S).size (cleanS S) (Nat.le_refl _); omega
      have hce := cells_steps (cleanS S) w1
      have hok := @steps_ok S
      have hX2 := hX1.alloc (.cells ((steps (cleanS S)).map Value.string).toArray 9)
      have hY2 := hY1.alloc (.cells ((steps (cleanS S)).map Value.string).toArray 9)
      have hZ2 := hZ1.alloc (.cells ((steps (cleanS S)).map Value.string).toArray 9)
      have hB2 := hB1.alloc hB1.size (.cells ((steps (cleanS S)).map Value.string).toArray 9)
      rw [hn] at hsp hce
      generalize w1.alloc (.cells ((steps (cleanS S)).map Value.string).toArray 9) = W2 at hsp hce hX2 hY2 hZ2 hB2
      generalize w1.heap.size = N at hsp hce
      generalize steps (cleanS S) = L at hce hok
      have HC := hide hce
      have HO := hide hok
      clear hce hok hn hX1 hY1 hZ1 hB1
      go_wp2_with fail
      refine hsp.mono ?_
      rintro e w2 ⟨rfl, hw2⟩
      subst hw2
      go_wp2_with fail
      · go_meet
        exact ⟨N, 0, 0, rfl, rfl, rfl, by omega, fun k hk => absurd hk (by omega), hX2, hY2, hZ2, hB2⟩
      · go_meet
        refine ⟨N, 1, n, rfl, rfl, rfl, hnle, fun k hk => ?_, hX2, hY2, hZ2, hB2⟩
        obtain ⟨q, q1, q2⟩ := HC.out (k + 1) (by omega)
        exact ⟨q, by rw [Nat.add_comm 1 k]; exact q2, fun hp => HO.out hp q1⟩
    case rest =>
      clear hX1 hY1 hZ1 hB1
      obtain ⟨N, a, n, rfl, rfl, rfl, hn, HC, hX, hY, hZ, hB⟩ := hcut
      go_step
      go_cut [11, 34] (fun s11 s34 we => we = wc)
      case first =>
        cases hp : pre [47] S.data.toList
        · go_wp2_with fail
          go_loop [34] (fun i => ∃ k : Nat, k ≤ n ∧ i = .int .i64 k) (fun i => n - (intOf i).toNat)
          case atStart => exact ⟨0, Nat.zero_le _, rfl⟩
          case round =>
            obtain ⟨k, hk, rfl⟩ := hrel
            by_cases hlt : k < n
            · obtain ⟨q, q1, -⟩ := HC.out k hlt
              have hltz : (k : Int) < n := by omega
              go_wp2_with fail
              refine (pre_any S ⟨#[47]⟩ false hp _).mono ?_
              rintro e w3 ⟨rfl, hw3⟩
              subst hw3
              go_wp2_with fail
              exact ⟨⟨k + 1, by omega, by go_num⟩, by simp [intOf]; omega⟩
            · have hd : decide ((k : Int) < n) = false := decide_eq_false (by omega)
              go_wp2_with fail
              go_meet
              rfl
        · go_wp2_with fail
          go_loop [34] (fun i => ∃ k : Nat, k ≤ n ∧ i = .int .i64 k) (fun i => n - (intOf i).toNat)
          case atStart => exact ⟨0, Nat.zero_le _, rfl⟩
          case round =>
            obtain ⟨k, hk, rfl⟩ := hrel
            by_cases hlt : k < n
            · obtain ⟨q, q1, q2⟩ := HC.out k hlt
              obtain ⟨q3, q4⟩ := q2 hp
              have b3 : (q.toList == [46]) = false := beq_not q3
              have b4 : (q.toList == [46, 46]) = false := beq_not q4
              clear q2 q3 q4
              have hltz : (k : Int) < n := by omega
              go_wp2_with fail
              refine (pre_any S ⟨#[47]⟩ true hp _).mono ?_
              rintro e w3 ⟨rfl, hw3⟩
              subst hw3
              go_wp2_with fail
              exact ⟨⟨k + 1, by omega, by go_num⟩, by simp [intOf]; omega⟩
            · have hd : decide ((k : Int) < n) = false := decide_eq_false (by omega)
              go_wp2_with fail
              go_meet
              rfl
      case rest =>
        obtain rfl := hcut
        clear HC
        go_upto_region 9 with fail
        go_cut [56] (fun s56 we => s56 = .bool false ∧ Six we w.heap.size F ∧ Six we (w.heap.size + 1) G ∧ Six we (w.heap.size + 2) O ∧ Below w.heap.size w we)
        case first =>
          cases hp : pre [47] S.data.toList
          · go_wp2_with fail
            refine (pre_any S ⟨#[47]⟩ false hp _).mono ?_
            rintro e w3 ⟨rfl, hw3⟩
            subst hw3
            go_wp2_with fail
            go_meet
            exact ⟨rfl, hX, hY, hZ, hB⟩
          · have HT := hide (cleanS_twice hp)
            go_wp2_with fail
            refine (pre_any S ⟨#[47]⟩ true hp _).mono ?_
            rintro e w3 ⟨rfl, hw3⟩
            subst hw3
            go_wp2_with fail
            refine (clean_any (cleanS S) _ (by omega)).mono ?_
            rintro e w4 ⟨rfl, hb4⟩
            rw [HT.out]
            go_wp2_with fail
            go_meet
            exact ⟨rfl, hX.below hb4, hY.below hb4, hZ.below hb4, hB.trans (hb4.mono hB.size)⟩
        case rest =>
          clear hX hY hZ hB hn hcs
          obtain ⟨rfl, hX, hY, hZ, hB⟩ := hcut
          have hr := resolve_any F G wc sF sG (by omega) (by omega) (ht.below hB)
          rcases stays_cases F G with ⟨n, q1, q2, q3⟩ | ⟨A, q1, q2, q3, q4, q5⟩
          · rw [q2, q3, U0_v] at hr
            clear q2 q3
            obtain ⟨x0, x1, x2, x3, x4, x5, -, -⟩ := id hX
            obtain ⟨y0, y1, y2, y3, y4, y5, -, -⟩ := id hY
            unfold U.v at hr
            go_wp2_with fail
            refine hr.mono ?_
            rintro e w3 ⟨rfl, hb3⟩
            have hB3 := hB.trans (hb3.mono hB.size)
            clear hb3 hr hX hY hZ hB x0 x1 x2 x3 x4 x5 y0 y1 y2 y3 y4 y5
            have hN := six_zero w3
            have hB4 : Below w.heap.size w (w3.alloc (.cells #[.bool false, .string ⟨#[]⟩, .int .i64 0, .string ⟨#[]⟩, .bool false, .string ⟨#[]⟩] 23)) := hB3.alloc hB3.size _
            clear hB3
            go_wp2_with fail
            generalize World.alloc _ _ = W4 at hN hB4 ⊢
            refine (alive_any _).mono ?_
            rintro e w5 ⟨rfl, hb5⟩
            have hN5 := hN.below hb5
            have hB5 := hB4.trans (hb5.mono hB4.size)
            clear hb5 hN hB4
            obtain ⟨c0, c1, c2, c3, c4, c5⟩ := hN5.zero
            go_wp2_with fail
            go_ret
            exact ⟨rfl, hB5⟩
          · rw [q1, q2] at hr
            clear q1 q2
            obtain ⟨a1, a2, a3⟩ := rt_short q3 q4
            have sA : Short A := ⟨by omega, by omega, by omega⟩
            have hAv : A.v = .agg #[.bool true, .string A.host, .int .i64 A.port, .string A.path, .bool A.asks, .string A.query] := by unfold U.v; rw [q4]
            have hAe : (⟨true, A.host, A.port, A.path, A.asks, A.query⟩ : U) = A := u_ext q4.symm rfl rfl rfl rfl rfl
            rw [hAv] at hr
            have HQ := hide q3
            have H5 := hide q5
            clear q3 q5
            obtain ⟨x0, x1, x2, x3, x4, x5, -, -⟩ := id hX
            obtain ⟨y0, y1, y2, y3, y4, y5, -, -⟩ := id hY
            unfold U.v at hr
            go_wp2_with fail
            refine hr.mono ?_
            rintro e w3 ⟨rfl, hb3⟩
            have hX3 := hX.below hb3
            have hY3 := hY.below hb3
            have hZ3 := hZ.below hb3
            have hB3 := hB.trans (hb3.mono hB.size)
            clear hb3 hr hX hY hZ hB x0 x1 x2 x3 x4 x5 y0 y1 y2 y3 y4 y5
            have hN : Six (w3.alloc (.cells #[.bool true, .string A.host, .int .i64 A.port, .string A.path, .bool A.asks, .string A.query] 23)) w3.heap.size A := by have := Six.new w3 A; unfold U.cs at this; rwa [q4] at this
            have hY4 := hY3.alloc (.cells #[.bool true, .string A.host, .int .i64 A.port, .string A.path, .bool A.asks, .string A.query] 23)
            have hZ4 := hZ3.alloc (.cells #[.bool true, .string A.host, .int .i64 A.port, .string A.path, .bool A.asks, .string A.query] 23)
            have hB4 : Below w.heap.size w (w3.alloc (.cells #[.bool true, .string A.host, .int .i64 A.port, .string A.path, .bool A.asks, .string A.query] 23)) := hB3.alloc hB3.size _
            have hlA : w.heap.size + 2 < w3.heap.size := hZ3.lt
            clear hX3 hY3 hZ3 hB3
            go_upto_region 14 with fail
            generalize w3.heap.size = NA at hN hlA ⊢
            generalize World.alloc _ _ = W4 at hN hY4 hZ4 hB4 ⊢
            obtain ⟨c0, c1, c2, c3, c4, c5, -, -⟩ := id hN
            rw [q4] at c0
            have hrr := refright_any A W4 sA
            rw [HQ.out, hAv] at hrr
            go_wp2_with fail
            refine hrr.mono ?_
            rintro e w5 ⟨rfl, hb5⟩
            have hN5 := hN.below hb5
            have hY5 := hY4.below hb5
            have hZ5 := hZ4.below hb5
            have hB5 := hB4.trans (hb5.mono hB4.size)
            clear hb5 hrr hN hY4 hZ4 hB4 c0 c1 c2 c3 c4 c5
            obtain ⟨c0, c1, c2, c3, c4, c5, -, -⟩ := id hN5
            rw [q4] at c0
            go_upto_region 16 with fail
            obtain ⟨z0, z1, z2, z3, z4, z5, -, -⟩ := id hZ5
            have hr := resolve_any O A w5 sO sA (by omega) (by omega) (ht.below hB5)
            cases hO : (rtU O && O.abs)
            · have hbad : (rtU O && rtU A && O.abs) = false := by rw [HQ.out, Bool.and_true]; exact hO
              obtain ⟨p1, p2⟩ := rs_bad hbad
              rw [p1, p2, U0_v, hAv] at hr
              clear p1 p2 hbad
              unfold U.v at hr
              go_wp2_with fail
              refine hr.mono ?_
              rintro e w6 ⟨rfl, hb6⟩
              have hZ6 := hZ5.below hb6
              have hB6 := hB5.trans (hb6.mono hB5.size)
              have hZ7 := hZ6.alloc (.cells #[.bool false, .string ⟨#[]⟩, .int .i64 0, .string ⟨#[]⟩, .bool false, .string ⟨#[]⟩] 23)
              have hB7 : Below w.heap.size w (w6.alloc (.cells #[.bool false, .string ⟨#[]⟩, .int .i64 0, .string ⟨#[]⟩, .bool false, .string ⟨#[]⟩] 23)) := hB6.alloc hB6.size _
              clear hb6 hr hN5 hY5 hZ5 hB5 hZ6 hB6 c0 c1 c2 c3 c4 c5 z0 z1 z2 z3 z4 z5
              go_upto_region 17 with fail
              generalize World.alloc _ _ = W7 at hZ7 hB7 ⊢
              have hro := refright_any O W7 sO
              obtain ⟨z0, z1, z2, z3, z4, z5, -, -⟩ := id hZ7
              unfold U.v at hro
              cases ho1 : rtU O
              · rw [ho1] at hro
                clear hO
                go_wp2_with fail
                refine hro.mono ?_
                rintro e w8 ⟨rfl, hb8⟩
                have hB8 := hB7.trans (hb8.mono hB7.size)
                clear hb8 hro hZ7 hB7 z0 z1 z2 z3 z4 z5
                go_wp2_with fail
                refine (alive_any _).mono ?_
                rintro e w9 ⟨rfl, hb9⟩
                go_wp2_with fail
                go_ret
                exact ⟨rfl, hB8.trans (hb9.mono hB8.size)⟩
              · have ho2 : O.abs = false := by rw [ho1] at hO; simpa using hO
                rw [ho1, ho2] at hro
                rw [ho2] at z0
                clear hO
                go_wp2_with fail
                refine hro.mono ?_
                rintro e w8 ⟨rfl, hb8⟩
                have hZ8 := hZ7.below hb8
                have hB8 := hB7.trans (hb8.mono hB7.size)
                clear hb8 hro hZ7 hB7 z0 z1 z2 z3 z4 z5
                obtain ⟨z0, z1, z2, z3, z4, z5, -, -⟩ := id hZ8
                rw [ho2] at z0
                go_wp2_with fail
                refine (alive_any _).mono ?_
                rintro e w9 ⟨rfl, hb9⟩
                go_wp2_with fail
                go_ret
                exact ⟨rfl, hB8.trans (hb9.mono hB8.size)⟩
            · simp only [Bool.and_eq_true] at hO
              obtain ⟨o1, o2⟩ := hO
              obtain ⟨p1, p2⟩ := again_good o1 o2 HQ.out q4
              rw [p1, p2, hAv] at hr
              clear p1 p2
              have hGv : (againU A).v = .agg #[.bool true, .string A.host, .int .i64 A.port, .string (cleanS A.path), .bool A.asks, .string A.query] := by unfold againU U.v; rw [q4]
              have hOv : O.v = .agg #[.bool true, .string O.host, .int .i64 O.port, .string O.path, .bool O.asks, .string O.query] := by unfold U.v; rw [o2]
              rw [hGv, hOv] at hr
              rw [o2] at z0
              have HO1 := hide o1
              clear o1
              go_wp2_with fail
              refine hr.mono ?_
              rintro e w6 ⟨rfl, hb6⟩
              have hN6 := hN5.below hb6
              have hY6 := hY5.below hb6
              have hZ6 := hZ5.below hb6
              have hB6 := hB5.trans (hb6.mono hB5.size)
              clear hb6 hr hN5 hY5 hZ5 hB5 c0 c1 c2 c3 c4 c5 z0 z1 z2 z3 z4 z5
              have hG : Six (w6.alloc (.cells #[.bool true, .string A.host, .int .i64 A.port, .string (cleanS A.path), .bool A.asks, .string A.query] 23)) w6.heap.size ⟨true, A.host, A.port, cleanS A.path, A.asks, A.query⟩ := Six.new w6 ⟨true, A.host, A.port, cleanS A.path, A.asks, A.query⟩
              have hN7 := hN6.alloc (.cells #[.bool true, .string A.host, .int .i64 A.port, .string (cleanS A.path), .bool A.asks, .string A.query] 23)
              have hY7 := hY6.alloc (.cells #[.bool true, .string A.host, .int .i64 A.port, .string (cleanS A.path), .bool A.asks, .string A.query] 23)
              have hZ7 := hZ6.alloc (.cells #[.bool true, .string A.host, .int .i64 A.port, .string (cleanS A.path), .bool A.asks, .string A.query] 23)
              have hB7 : Below w.heap.size w (w6.alloc (.cells #[.bool true, .string A.host, .int .i64 A.port, .string (cleanS A.path), .bool A.asks, .string A.query] 23)) := hB6.alloc hB6.size _
              have hlG : w.heap.size + 2 < w6.heap.size := hZ6.lt
              have hlG2 : NA < w6.heap.size := hN6.lt
              clear hN6 hY6 hZ6 hB6
              go_upto_region 17 with fail
              generalize w6.heap.size = NG at hG hlG hlG2 ⊢
              generalize World.alloc _ _ = W7 at hG hN7 hY7 hZ7 hB7 ⊢
              have hro := refright_any O W7 sO
              rw [HO1.out, hOv] at hro
              obtain ⟨z0, z1, z2, z3, z4, z5, -, -⟩ := id hZ7
              rw [o2] at z0
              go_wp2_with fail
              refine hro.mono ?_
              rintro e w8 ⟨rfl, hb8⟩
              have hN8 := hN7.below hb8
              have hY8 := hY7.below hb8
              have hZ8 := hZ7.below hb8
              have hG8 := hG.below hb8
              have hB8 := hB7.trans (hb8.mono hB7.size)
              clear hb8 hro hN7 hY7 hZ7 hG hB7 z0 z1 z2 z3 z4 z5
              obtain ⟨z0, z1, z2, z3, z4, z5, -, -⟩ := id hZ8
              rw [o2] at z0
              go_upto_region 19 with fail
              clear z0 z1 z2 z3 z4 z5
              obtain ⟨c0, c1, c2, c3, c4, c5, -, -⟩ := id hN8
              rw [q4] at c0
              have hC : Six (w8.alloc (.cells #[.bool true, .string A.host, .int .i64 A.port, .string A.path, .bool A.asks, .string A.query] 23)) w8.heap.size A := by have := Six.new w8 A; unfold U.cs at this; rwa [q4] at this
              have hN9 := hN8.alloc (.cells #[.bool true, .string A.host, .int .i64 A.port, .string A.path, .bool A.asks, .string A.query] 23)
              have hY9 := hY8.alloc (.cells #[.bool true, .string A.host, .int .i64 A.port, .string A.path, .bool A.asks, .string A.query] 23)
              have hG9 := hG8.alloc (.cells #[.bool true, .string A.host, .int .i64 A.port, .string A.path, .bool A.asks, .string A.query] 23)
              have hB9 : Below w.heap.size w (w8.alloc (.cells #[.bool true, .string A.host, .int .i64 A.port, .string A.path, .bool A.asks, .string A.query] 23)) := hB8.alloc hB8.size _
              have hl1 : w.heap.size + 2 < w8.heap.size := hZ8.lt
              have hl2 : NA < w8.heap.size := hN8.lt
              have hl3 : NG < w8.heap.size := hG8.lt
              clear hN8 hY8 hZ8 hG8 hB8
              go_upto_region 20 with fail
              clear c0 c1 c2 c3 c4 c5
              generalize w8.heap.size = NC at hC hl1 hl2 hl3 ⊢
              generalize World.alloc _ _ = W9 at hC hN9 hY9 hG9 hB9 ⊢
              obtain ⟨c0, c1, c2, c3, c4, c5, -, -⟩ := id hN9
              rw [q4] at c0
              go_wp2_with fail
              refine (clean_any A.path _ (by omega)).mono ?_
              rintro e w10 ⟨rfl, hb10⟩
              have hN10 := hN9.below hb10
              have hY10 := hY9.below hb10
              have hG10 := hG9.below hb10
              have hC10 := hC.below hb10
              have hB10 := hB9.trans (hb10.mono hB9.size)
              clear hb10 hN9 hY9 hG9 hC hB9 c0 c1 c2 c3 c4 c5
              obtain ⟨d0, d1, d2, d3, d4, d5, -, df⟩ := id hC10
              go_upto_region 21 with fail
              clear d0 d1 d2 d3 d4 d5 df
              have hC11 : Six _ NC ⟨A.abs, A.host, A.port, cleanS A.path, A.asks, A.query⟩ := hC10.s3 (cleanS A.path)
              rw [q4] at hC11
              have hN11 := hN10.other NC 3 (.string (cleanS A.path)) (by omega)
              have hY11 := hY10.other NC 3 (.string (cleanS A.path)) (by omega)
              have hG11 := hG10.other NC 3 (.string (cleanS A.path)) (by omega)
              have hB11 : Below w.heap.size w (w10.setCell ⟨NC, 3, none⟩ (.string (cleanS A.path))) := hB10.setCell (show w.heap.size ≤ NC by omega) _
              clear hN10 hY10 hG10 hC10 hB10
              generalize World.setCell _ _ _ = W11 at hN11 hY11 hG11 hC11 hB11 ⊢
              go_wp2_with fail
              refine (alive_any _).mono ?_
              rintro e w12 ⟨rfl, hb12⟩
              have hN12 := hN11.below hb12
              have hY12 := hY11.below hb12
              have hG12 := hG11.below hb12
              have hC12 := hC11.below hb12
              have hB12 := hB11.trans (hb12.mono hB11.size)
              clear hb12 hN11 hY11 hG11 hC11 hB11 hGv
              by_cases hg : G.path.data.toList = []
              · have he : G.path.toList.isEmpty = true := by rw [Lib.toList_data, hg]; rfl
                generalize cleanS A.path = P at hG12 hC12
                obtain ⟨y0, y1, y2, y3, y4, y5, -, -⟩ := id hY12
                obtain ⟨g0, g1, g2, g3, g4, g5, -, -⟩ := id hG12
                obtain ⟨d0, d1, d2, d3, d4, d5, -, -⟩ := id hC12
                go_wp2_with fail
                go_ret
                exact ⟨by simp, hB12⟩
              · have he : G.path.toList.isEmpty = false := by rw [Lib.toList_data]; simpa using hg
                rw [H5.out hg] at hG12 hC12
                obtain ⟨c0, c1, c2, c3, c4, c5, -, -⟩ := id hN12
                obtain ⟨y0, y1, y2, y3, y4, y5, -, -⟩ := id hY12
                obtain ⟨g0, g1, g2, g3, g4, g5, -, -⟩ := id hG12
                obtain ⟨d0, d1, d2, d3, d4, d5, -, -⟩ := id hC12
                rw [q4] at c0
                go_wp2_with fail
                go_ret
                exact ⟨by simp, hB12⟩

end Go.Proofs.YtjegoceebdiaaaaDoor
