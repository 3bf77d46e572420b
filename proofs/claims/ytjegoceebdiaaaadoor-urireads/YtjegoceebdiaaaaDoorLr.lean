/- The walk of UriReads. -/
import Derived.Test.YtjegoceebdiaaaaDoorFb
import Derived.Test.YtjegoceebdiaaaaDoorMw
namespace Go.Proofs.YtjegoceebdiaaaaDoor
set_option linter.unusedVariables false
set_option linter.unusedSimpArgs false
open Go.RowKit

set_option maxRecDepth 100000 in
set_option maxHeartbeats 2000000 in
theorem reads_walk (u : U) (s : ByteArray) (w : World) (h1 : u.host.size ≤ maxLen) (h2 : u.path.size ≤ maxLen) (h3 : u.query.size ≤ maxLen) (hs : s.size ≤ maxLen) (ht : Tabs w) :
    Calls Tryd.prog 3 #[u.v, .string s] w fun e w' => e = .returned (.bool true) ∧ Below w.heap.size w w' := by
  have hnew := Six.new w u
  have hbn : Below w.heap.size w (w.alloc (.cells u.cs.toArray 23)) := (Below.refl _ _).alloc (Nat.le_refl _) _
  unfold U.cs at hnew hbn
  have hfew := few_any u
  have hsx := few_cut s 520
  unfold maxLen at hs
  go_enter Tryd.func3, Tryd.ntmps3
  unfold U.v
  go_wp2_with fail
  generalize World.alloc _ _ = W0 at hnew hbn ⊢
  go_cut [1] (fun s1 wc => s1 = .string (s.extract 0 (min (s.size : Int) 520).toNat) ∧ Six wc w.heap.size (fewU u) ∧ Below w.heap.size w wc)
  case first =>
    obtain ⟨c0, c1, c2, c3, c4, c5, -, -⟩ := id hnew.drew
    refine wp_region_held_drew (S := (fun _ => True)) (by kernel_rfl) (trivial) (fun hHeld => ?_)
    refine wpAnyH_take (i := 2) (oi := _) (v := .string s) rfl (by kernel_rfl) (by kernel_rfl) (by kernel_rfl) (fun _ _ _ h => h) (Or.inl ⟨by rfl, fun wS hSw => by go_simp⟩) (by first | trivial | assumption) ?_
    simp only [Act.put, List.setIfInBounds_toArray, List.set_cons_zero, List.set_cons_succ]
    refine wpAnyH_take (i := 3) (oi := _) (v := .string s) rfl (by kernel_rfl) (by kernel_rfl) (by kernel_rfl) (fun _ _ _ h => h) (Or.inl ⟨by rfl, fun wS hSw => by go_simp⟩) (by first | trivial | assumption) ?_
    simp only [Act.put, List.setIfInBounds_toArray, List.set_cons_zero, List.set_cons_succ]
    refine wpAnyH_take (i := 4) (oi := _) (v := .int .i64 s.size) rfl (by kernel_rfl) (by kernel_rfl) (by kernel_rfl) (fun _ _ _ h => h) (Or.inl ⟨by rfl, fun wS hSw => by go_simp⟩) (by first | trivial | assumption) ?_
    simp only [Act.put, List.setIfInBounds_toArray, List.set_cons_zero, List.set_cons_succ]
    refine wpAnyH_take (i := 5) (oi := _) (v := .int .i64 (min (s.size : Int) 520)) rfl (by kernel_rfl) (by kernel_rfl) (by kernel_rfl) (fun _ _ _ h => h) (Or.inl ⟨by rfl, fun wS hSw => by go_simp⟩) (by first | trivial | assumption) ?_
    simp only [Act.put, List.setIfInBounds_toArray, List.set_cons_zero, List.set_cons_succ]
    refine wpAnyH_take (i := 6) (oi := _) (v := .string (s.extract 0 (min (s.size : Int) 520).toNat)) rfl (by kernel_rfl) (by kernel_rfl) (by kernel_rfl) (fun _ _ _ h => h) (Or.inl ⟨by rfl, fun wS hSw => by go_simp; intro hx; exfalso; have := hx (by omega); omega⟩) (by first | trivial | assumption) ?_
    simp only [Act.put, List.setIfInBounds_toArray, List.set_cons_zero, List.set_cons_succ]
    refine wpAnyH_ready (rs := [0]) (by kernel_rfl) (by simp) ?_
    refine AllReadyH.cons (o := _) rfl (fun K hK => ?_) AllReadyH.nil
    go_simp
    refine hK.out _ _ (trivial) (fun hHeld => ?_)
    clear hK K
    refine wpAnyH_ready (rs := [1]) (by kernel_rfl) (by simp) ?_
    refine AllReadyH.cons (o := _) rfl (fun K hK => ?_) AllReadyH.nil
    go_simp
    refine (hfew W0.drew h1 h2 h3).mono ?_
    rintro e w1 ⟨rfl, hb1⟩
    unfold U.v
    refine hK.out _ _ (trivial) (fun hHeld => ?_)
    clear hK K
    have hN1 := hnew.drew.below hb1
    have hB1 := (below_drew hbn).trans (hb1.mono (below_drew hbn).size)
    obtain ⟨d0, d1, d2, d3, d4, d5, -, df⟩ := id hN1
    refine wpAnyH_ready (rs := [7]) (by kernel_rfl) (by simp) ?_
    refine AllReadyH.cons (o := _) rfl (fun K hK => ?_) AllReadyH.nil
    go_simp
    refine hK.out _ _ (trivial) (fun hHeld => ?_)
    clear hK K
    refine wpAnyH_ready (rs := [8]) (by kernel_rfl) (by simp) ?_
    refine AllReadyH.cons (o := _) rfl (fun K hK => ?_) AllReadyH.nil
    go_simp
    refine hK.out _ _ (trivial) (fun hHeld => ?_)
    clear hK K
    refine wpAnyH_done (by kernel_rfl) ?_ _
    go_wp2_with fail
    go_meet
    exact ⟨rfl, put6_six hN1 (fewU u), put6_below hB1 (Nat.le_refl _) (fewU u)⟩
  case rest =>
    clear hnew hbn
    obtain ⟨rfl, hN, hB⟩ := hcut
    have hsh := few_short u
    have hsx' : (s.extract 0 (min (s.size : Int) 520).toNat).size ≤ 520 := hsx
    clear hsx
    generalize fewU u = F at hN hsh ⊢
    generalize s.extract 0 (min (s.size : Int) 520).toNat = S at hsx' ⊢
    clear hfew h1 h2 h3
    have htc := ht.below hB
    obtain ⟨c0, c1, c2, c3, c4, c5, -, -⟩ := id hN
    go_wp2_with fail
    refine (print_any F _ hsh htc).mono ?_
    rintro e w1 ⟨rfl, hb1⟩
    have hN1 := hN.below hb1
    have hB1 := hB.trans (hb1.mono hB.size)
    clear hb1 hN hB htc c0 c1 c2 c3 c4 c5
    have hpa := parse_any S w1 (by omega) (ht.below hB1)
    have hpr := fun W => refparse_any S W (by omega)
    rw [(pr_is S).1, (pr_is S).2] at hpr
    generalize psU S.data.toList = X at hpa hpr
    generalize psE S.data.toList = n at hpa hpr
    go_wp2_with fail
    refine hpa.mono ?_
    rintro e w2 ⟨rfl, hb2⟩
    have hN2 := hN1.below hb2
    have hB2 := hB1.trans (hb2.mono hB1.size)
    clear hb2 hpa hN1 hB1
    have hX := Six.new w2 X
    have hBx : Below w2.heap.size w2 (w2.alloc (.cells X.cs.toArray 23)) := (Below.refl _ _).alloc (Nat.le_refl _) _
    have hN3 := hN2.below hBx
    have hB3 := hB2.trans (hBx.mono hB2.size)
    unfold U.cs at hX hB3 hN3
    clear hBx hN2 hB2
    unfold U.v
    go_wp2_with fail
    generalize w2.heap.size = NX at hX ⊢
    generalize World.alloc _ _ = W3 at hX hB3 hN3 ⊢
    refine (hpr W3).mono ?_
    rintro e w4 ⟨rfl, hb4⟩
    have hX4 := hX.below hb4
    have hN4 := hN3.below hb4
    have hB4 := hB3.trans (hb4.mono hB3.size)
    clear hb4 hX hB3 hN3 hpr
    have hY := Six.new w4 X
    have hBy : Below w4.heap.size w4 (w4.alloc (.cells X.cs.toArray 23)) := (Below.refl _ _).alloc (Nat.le_refl _) _
    have hX5 := hX4.below hBy
    have hN5 := hN4.below hBy
    have hB5 := hB4.trans (hBy.mono hB4.size)
    unfold U.cs at hY hX5 hN5 hB5
    clear hBy hX4 hN4 hB4
    unfold U.v
    go_upto_region 5 with fail
    generalize w4.heap.size = NY at hY ⊢
    generalize World.alloc _ _ = W5 at hY hX5 hN5 hB5 ⊢
    have hR1 := fun W => right_any F W hsh
    have hR2 := fun W => refright_any F W hsh
    unfold U.v at hR1 hR2
    generalize hrt : rtU F = r at hR1 hR2
    go_cut [51] (fun s51 wc => s51 = .bool false ∧ Six wc w.heap.size F ∧ Below w.heap.size w wc)
    case first =>
      refine wp_region_held_drew (S := (fun wS => Six wS w.heap.size F ∧ Six wS NX X ∧ Six wS NY X ∧ Below w.heap.size w wS)) (by kernel_rfl) (⟨hN5.drew, hX5.drew, hY.drew, below_drew hB5⟩) (fun hHeld => ?_)
      refine wpAnyH_take (i := 0) (oi := _) (v := .agg #[.bool X.abs, .string X.host, .int .i64 X.port, .string X.path, .bool X.asks, .string X.query]) rfl (by kernel_rfl) (by kernel_rfl) (by kernel_rfl) (fun _ _ _ h => h) (Or.inl ⟨by kernel_rfl, fun wS hSw => by obtain ⟨-, ⟨l0, l1, l2, l3, l4, l5, -, -⟩, -, -⟩ := hSw; go_simp⟩) (by first | trivial | assumption) ?_
      simp only [Act.put, List.setIfInBounds_toArray, List.set_cons_zero, List.set_cons_succ]
      refine wpAnyH_take (i := 1) (oi := _) (v := .agg #[.bool X.abs, .string X.host, .int .i64 X.port, .string X.path, .bool X.asks, .string X.query]) rfl (by kernel_rfl) (by kernel_rfl) (by kernel_rfl) (fun _ _ _ h => h) (Or.inl ⟨by kernel_rfl, fun wS hSw => by obtain ⟨-, -, ⟨l0, l1, l2, l3, l4, l5, -, -⟩, -⟩ := hSw; go_simp⟩) (by first | trivial | assumption) ?_
      simp only [Act.put, List.setIfInBounds_toArray, List.set_cons_zero, List.set_cons_succ]
      refine wpAnyH_take (i := 2) (oi := _) (v := .bool false) rfl (by kernel_rfl) (by kernel_rfl) (by kernel_rfl) (fun _ _ _ h => h) (Or.inl ⟨by kernel_rfl, fun wS hSw => by skip; go_simp⟩) (by first | trivial | assumption) ?_
      simp only [Act.put, List.setIfInBounds_toArray, List.set_cons_zero, List.set_cons_succ]
      refine wpAnyH_take (i := 3) (oi := _) (v := .bool false) rfl (by kernel_rfl) (by kernel_rfl) (by kernel_rfl) (fun _ _ _ h => h) (Or.inl ⟨by kernel_rfl, fun wS hSw => by skip; go_simp⟩) (by first | trivial | assumption) ?_
      simp only [Act.put, List.setIfInBounds_toArray, List.set_cons_zero, List.set_cons_succ]
      refine wpAnyH_take (i := 4) (oi := _) (v := .int .i64 n) rfl (by kernel_rfl) (by kernel_rfl) (by kernel_rfl) (fun _ _ _ h => h) (Or.inl ⟨by kernel_rfl, fun wS hSw => by skip; go_simp⟩) (by first | trivial | assumption) ?_
      simp only [Act.put, List.setIfInBounds_toArray, List.set_cons_zero, List.set_cons_succ]
      refine wpAnyH_take (i := 5) (oi := _) (v := .int .i64 n) rfl (by kernel_rfl) (by kernel_rfl) (by kernel_rfl) (fun _ _ _ h => h) (Or.inl ⟨by kernel_rfl, fun wS hSw => by skip; go_simp⟩) (by first | trivial | assumption) ?_
      simp only [Act.put, List.setIfInBounds_toArray, List.set_cons_zero, List.set_cons_succ]
      refine wpAnyH_take (i := 6) (oi := _) (v := .bool false) rfl (by kernel_rfl) (by kernel_rfl) (by kernel_rfl) (fun _ _ _ h => h) (Or.inl ⟨by kernel_rfl, fun wS hSw => by skip; go_simp⟩) (by first | trivial | assumption) ?_
      simp only [Act.put, List.setIfInBounds_toArray, List.set_cons_zero, List.set_cons_succ]
      refine wpAnyH_take (i := 7) (oi := _) (v := .bool false) rfl (by kernel_rfl) (by kernel_rfl) (by kernel_rfl) (fun _ _ _ h => h) (Or.inl ⟨by kernel_rfl, fun wS hSw => by skip; go_simp⟩) (by first | trivial | assumption) ?_
      simp only [Act.put, List.setIfInBounds_toArray, List.set_cons_zero, List.set_cons_succ]
      refine wpAnyH_take (i := 8) (oi := _) (v := .bool false) rfl (by kernel_rfl) (by kernel_rfl) (by kernel_rfl) (fun _ _ _ h => h) (Or.inl ⟨by kernel_rfl, fun wS hSw => by skip; go_simp⟩) (by first | trivial | assumption) ?_
      simp only [Act.put, List.setIfInBounds_toArray, List.set_cons_zero, List.set_cons_succ]
      refine wpAnyH_take (i := 9) (oi := _) (v := .agg #[.bool F.abs, .string F.host, .int .i64 F.port, .string F.path, .bool F.asks, .string F.query]) rfl (by kernel_rfl) (by kernel_rfl) (by kernel_rfl) (fun _ _ _ h => h) (Or.inl ⟨by kernel_rfl, fun wS hSw => by obtain ⟨⟨l0, l1, l2, l3, l4, l5, -, -⟩, -, -, -⟩ := hSw; go_simp⟩) (by first | trivial | assumption) ?_
      simp only [Act.put, List.setIfInBounds_toArray, List.set_cons_zero, List.set_cons_succ]
      refine wpAnyH_take (i := 11) (oi := _) (v := .agg #[.bool F.abs, .string F.host, .int .i64 F.port, .string F.path, .bool F.asks, .string F.query]) rfl (by kernel_rfl) (by kernel_rfl) (by kernel_rfl) (fun _ _ _ h => h) (Or.inl ⟨by kernel_rfl, fun wS hSw => by obtain ⟨⟨l0, l1, l2, l3, l4, l5, -, -⟩, -, -, -⟩ := hSw; go_simp⟩) (by first | trivial | assumption) ?_
      simp only [Act.put, List.setIfInBounds_toArray, List.set_cons_zero, List.set_cons_succ]
      refine wpAnyH_ready (rs := [10]) (by kernel_rfl) (by simp) ?_
      refine AllReadyH.cons (o := _) rfl (fun K hK => ?_) AllReadyH.nil
      go_simp
      refine (hR1 _ (ht.below hHeld.2.2.2)).mono ?_
      rintro e w6 ⟨rfl, hb6⟩
      have hH6 : Six w6 w.heap.size F ∧ Six w6 NX X ∧ Six w6 NY X ∧ Below w.heap.size w w6 := ⟨hHeld.1.below hb6, hHeld.2.1.below hb6, hHeld.2.2.1.below hb6, hHeld.2.2.2.trans (hb6.mono hHeld.2.2.2.size)⟩
      refine hK.out _ _ hH6 (fun hHeld => ?_)
      clear hK K hb6 hH6
      refine wpAnyH_ready (rs := [12]) (by kernel_rfl) (by simp) ?_
      refine AllReadyH.cons (o := _) rfl (fun K hK => ?_) AllReadyH.nil
      go_simp
      refine (hR2 _).mono ?_
      rintro e w7 ⟨rfl, hb7⟩
      have hH7 : Six w7 w.heap.size F ∧ Six w7 NX X ∧ Six w7 NY X ∧ Below w.heap.size w w7 := ⟨hHeld.1.below hb7, hHeld.2.1.below hb7, hHeld.2.2.1.below hb7, hHeld.2.2.2.trans (hb7.mono hHeld.2.2.2.size)⟩
      refine hK.out _ _ hH7 (fun hHeld => ?_)
      clear hK K hb7 hH7
      refine wpAnyH_take (i := 13) (oi := _) (v := .bool false) rfl (by kernel_rfl) (by kernel_rfl) (by kernel_rfl) (fun _ _ _ h => h) (Or.inl ⟨by kernel_rfl, fun wS hSw => by skip; go_simp⟩) (by first | trivial | assumption) ?_
      simp only [Act.put, List.setIfInBounds_toArray, List.set_cons_zero, List.set_cons_succ]
      refine wpAnyH_take (i := 14) (oi := _) (v := .bool false) rfl (by kernel_rfl) (by kernel_rfl) (by kernel_rfl) (fun _ _ _ h => h) (Or.inl ⟨by kernel_rfl, fun wS hSw => by skip; go_simp⟩) (by first | trivial | assumption) ?_
      simp only [Act.put, List.setIfInBounds_toArray, List.set_cons_zero, List.set_cons_succ]
      refine wpAnyH_take (i := 15) (oi := _) (v := .bool false) rfl (by kernel_rfl) (by kernel_rfl) (by kernel_rfl) (fun _ _ _ h => h) (Or.inl ⟨by kernel_rfl, fun wS hSw => by skip; go_simp⟩) (by first | trivial | assumption) ?_
      simp only [Act.put, List.setIfInBounds_toArray, List.set_cons_zero, List.set_cons_succ]
      refine wpAnyH_ready (rs := [16]) (by kernel_rfl) (by simp) ?_
      refine AllReadyH.cons (o := _) rfl (fun K hK => ?_) AllReadyH.nil
      go_simp
      refine (alive_any _).mono ?_
      rintro e w8 ⟨rfl, hb8⟩
      have hH8 : Six w8 w.heap.size F ∧ Six w8 NX X ∧ Six w8 NY X ∧ Below w.heap.size w w8 := ⟨hHeld.1.below hb8, hHeld.2.1.below hb8, hHeld.2.2.1.below hb8, hHeld.2.2.2.trans (hb8.mono hHeld.2.2.2.size)⟩
      refine hK.out _ _ hH8 (fun hHeld => ?_)
      clear hK K hb8 hH8
      refine wpAnyH_ready (rs := [17]) (by kernel_rfl) (by simp) ?_
      refine AllReadyH.cons (o := _) rfl (fun K hK => ?_) AllReadyH.nil
      go_simp
      refine hK.out _ _ (hHeld) (fun hHeld => ?_)
      clear hK K
      refine wpAnyH_ready (rs := [18]) (by kernel_rfl) (by simp) ?_
      refine AllReadyH.cons (o := _) rfl (fun K hK => ?_) AllReadyH.nil
      go_simp
      refine hK.out _ _ (hHeld) (fun hHeld => ?_)
      clear hK K
      refine wpAnyH_done (by kernel_rfl) ?_ _
      go_wp2_with fail
      go_meet
      exact ⟨rfl, hHeld.1, hHeld.2.2.2⟩
    case rest =>
      obtain ⟨rfl, hN6, hB6⟩ := hcut
      clear hX5 hY hN5 hB5 hR1
      obtain ⟨c0, c1, c2, c3, c4, c5, -, -⟩ := id hN6
      go_wp2_with fail
      refine (hR2 _).mono ?_
      rintro e w7 ⟨rfl, hb7⟩
      have hN7 := hN6.below hb7
      have hB7 := hB6.trans (hb7.mono hB6.size)
      clear hb7 hN6 hB6 hR2 c0 c1 c2 c3 c4 c5
      cases r
      · have e1 : prE F = 1 := by unfold prE; rw [hrt]; rfl
        have e2 : prS F = ⟨#[]⟩ := by unfold prS; rw [hrt]; rfl
        rw [e1, e2]
        go_wp2_with fail
        go_ret
        exact ⟨rfl, hB7⟩
      · have e1 : prE F = 0 := by unfold prE; rw [hrt]; rfl
        have e2 : prS F = wrS F := by unfold prS; rw [hrt]; rfl
        rw [e1, e2]
        have hrw := fun W => refwrite_any F W (hsh.fits (rt_place hrt))
        unfold U.v at hrw
        obtain ⟨c0, c1, c2, c3, c4, c5, -, -⟩ := id hN7
        clear e1 e2
        go_wp2_with fail
        refine (hrw _).mono ?_
        rintro e w8 ⟨rfl, hb8⟩
        have hB8 := hB7.trans (hb8.mono hB7.size)
        go_wp2_with fail
        go_ret
        exact ⟨by simp, hB8⟩

end Go.Proofs.YtjegoceebdiaaaaDoor
