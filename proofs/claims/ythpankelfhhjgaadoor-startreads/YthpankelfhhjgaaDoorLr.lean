/- The walk of StartReads. -/
import Derived.Test.YthpankelfhhjgaaDoorLa
namespace Go.Proofs.YthpankelfhhjgaaDoor
set_option linter.unusedVariables false
set_option linter.unusedSimpArgs false
open Go.RowKit

/-- What lies there while both are compared. -/
structure Lie (w : World) (F X Y : St) (NX NV NY NU : Nat) (wS : World) : Prop where
  f : Five wS w.heap.size F
  x : Five wS NX X
  v : Five wS NV X
  y : Five wS NY Y
  u : Five wS NU Y
  b : Below w.heap.size w wS
theorem Lie.on {w wS w' : World} {F X Y : St} {NX NV NY NU : Nat} (h : Lie w F X Y NX NV NY NU wS) (hb : Below wS.heap.size wS w') : Lie w F X Y NX NV NY NU w' :=
  ⟨h.f.below hb, h.x.below hb, h.v.below hb, h.y.below hb, h.u.below hb, h.b.trans (hb.mono h.b.size)⟩
theorem Lie.drew {w wS : World} {F X Y : St} {NX NV NY NU : Nat} (h : Lie w F X Y NX NV NY NU wS) : Lie w F X Y NX NV NY NU wS.drew :=
  ⟨h.f.drew, h.x.drew, h.v.drew, h.y.drew, h.u.drew, below_drew h.b⟩

set_option maxRecDepth 100000 in
set_option maxHeartbeats 4000000 in
theorem reads_walk (u : St) (s : ByteArray) (c : Int) (w : World) (h1 : u.m.size ≤ maxLen) (h2 : u.t.size ≤ maxLen) (h3 : u.r.size ≤ maxLen) (hs : s.size ≤ maxLen) (hc : (Lit.int .i64 c).wf = true) (ht : Tabs w) :
    Calls Tryd.prog 3 #[u.v, .string s, .int .i64 c] w fun e w' => e = .returned (.bool true) ∧ Below w.heap.size w w' := by
  have hnew := Five.new w u
  have hbn : Below w.heap.size w (w.alloc (.cells u.cs.toArray 23)) := (Below.refl _ _).alloc (Nat.le_refl _) _
  unfold St.cs at hnew hbn
  have hfew := few_any u
  have hsx := few_cut s 600
  have HC1 := hide (reason_any c hc)
  have HC2 := hide (refreason_any c)
  generalize saidS c = RS at HC1 HC2
  clear hc
  unfold maxLen at hs
  go_enter Tryd.func3, Tryd.ntmps3
  unfold St.v
  go_wp2_with fail
  generalize World.alloc _ _ = W0 at hnew hbn ⊢
  go_cut [1] (fun s1 wc => s1 = .string (s.extract 0 (min (s.size : Int) 600).toNat) ∧ Five wc w.heap.size (fewU u) ∧ Below w.heap.size w wc)
  case first =>
    obtain ⟨c0, c1, c2, c3, c4, -, -⟩ := id hnew.drew
    refine wp_region_held_drew (S := (fun _ => True)) (by kernel_rfl) (trivial) (fun hHeld => ?_)
    refine wpAnyH_take (i := 2) (oi := _) (v := .string s) rfl (by kernel_rfl) (by kernel_rfl) (by kernel_rfl) (fun _ _ _ h => h) (Or.inl ⟨by rfl, fun wS hSw => by go_simp⟩) (by first | trivial | assumption) ?_
    simp only [Act.put, List.setIfInBounds_toArray, List.set_cons_zero, List.set_cons_succ]
    refine wpAnyH_take (i := 3) (oi := _) (v := .string s) rfl (by kernel_rfl) (by kernel_rfl) (by kernel_rfl) (fun _ _ _ h => h) (Or.inl ⟨by rfl, fun wS hSw => by go_simp⟩) (by first | trivial | assumption) ?_
    simp only [Act.put, List.setIfInBounds_toArray, List.set_cons_zero, List.set_cons_succ]
    refine wpAnyH_take (i := 4) (oi := _) (v := .int .i64 s.size) rfl (by kernel_rfl) (by kernel_rfl) (by kernel_rfl) (fun _ _ _ h => h) (Or.inl ⟨by rfl, fun wS hSw => by go_simp⟩) (by first | trivial | assumption) ?_
    simp only [Act.put, List.setIfInBounds_toArray, List.set_cons_zero, List.set_cons_succ]
    refine wpAnyH_take (i := 5) (oi := _) (v := .int .i64 (min (s.size : Int) 600)) rfl (by kernel_rfl) (by kernel_rfl) (by kernel_rfl) (fun _ _ _ h => h) (Or.inl ⟨by rfl, fun wS hSw => by go_simp⟩) (by first | trivial | assumption) ?_
    simp only [Act.put, List.setIfInBounds_toArray, List.set_cons_zero, List.set_cons_succ]
    refine wpAnyH_take (i := 6) (oi := _) (v := .string (s.extract 0 (min (s.size : Int) 600).toNat)) rfl (by kernel_rfl) (by kernel_rfl) (by kernel_rfl) (fun _ _ _ h => h) (Or.inl ⟨by rfl, fun wS hSw => by go_simp; intro hx; exfalso; have := hx (by omega); omega⟩) (by first | trivial | assumption) ?_
    simp only [Act.put, List.setIfInBounds_toArray, List.set_cons_zero, List.set_cons_succ]
    refine wpAnyH_ready (rs := [0]) (by kernel_rfl) (by simp) ?_
    refine AllReadyH.cons (o := _) rfl (fun K hK => ?_) AllReadyH.nil
    go_simp
    refine hK.out _ _ (trivial) (fun hHeld => ?_)
    clear hK K
    refine wpAnyH_ready (rs := [1]) (by kernel_rfl) (by simp) ?_
    refine AllReadyH.cons (o := _) rfl (fun K hK => ?_) AllReadyH.nil
    go_simp
    refine (hfew W0.drew h1 h2 h3).mono ?_
    rintro e w1 ⟨rfl, hb1⟩
    unfold St.v
    refine hK.out _ _ (trivial) (fun hHeld => ?_)
    clear hK K
    have hN1 := hnew.drew.below hb1
    have hB1 := (below_drew hbn).trans (hb1.mono (below_drew hbn).size)
    obtain ⟨d0, d1, d2, d3, d4, -, df⟩ := id hN1
    refine wpAnyH_ready (rs := [7]) (by kernel_rfl) (by simp) ?_
    refine AllReadyH.cons (o := _) rfl (fun K hK => ?_) AllReadyH.nil
    go_simp
    refine hK.out _ _ (trivial) (fun hHeld => ?_)
    clear hK K
    refine wpAnyH_ready (rs := [8]) (by kernel_rfl) (by simp) ?_
    refine AllReadyH.cons (o := _) rfl (fun K hK => ?_) AllReadyH.nil
    go_simp
    refine hK.out _ _ (trivial) (fun hHeld => ?_)
    clear hK K
    refine wpAnyH_done (by kernel_rfl) ?_ _
    go_wp2_with fail
    go_meet
    exact ⟨rfl, put5_five hN1 (fewU u), put5_below hB1 (Nat.le_refl _) (fewU u)⟩
  case rest =>
    clear hnew hbn
    obtain ⟨rfl, hN, hB⟩ := hcut
    have hsh := few_short u
    have hsx' : (s.extract 0 (min (s.size : Int) 600).toNat).size ≤ 600 := hsx
    clear hsx
    generalize fewU u = F at hN hsh ⊢
    generalize s.extract 0 (min (s.size : Int) 600).toNat = L at hsx' ⊢
    clear hfew h1 h2 h3
    have htc := ht.below hB
    obtain ⟨c0, c1, c2, c3, c4, -, -⟩ := id hN
    have HPa := hide (parse_any L · (by omega))
    have HPr := hide (refparse_any L · (by omega))
    have HSa := hide (status_any L · (by omega))
    have HSr := hide (refstatus_any L · (by omega))
    generalize gvU (psU L) = X at HPa HPr
    generalize gvE (psU L) = eX at HPa HPr
    generalize gvU (stU L) = Y at HSa HSr
    generalize gvE (stU L) = eY at HSa HSr
    go_wp2_with fail
    refine (print_any F _ hsh htc).mono ?_
    rintro e w1 ⟨rfl, hb1⟩
    have hF1 := hN.below hb1
    have hB1 := hB.trans (hb1.mono hB.size)
    clear hb1 hN hB htc c0 c1 c2 c3 c4
    go_wp2_with fail
    refine (HPa.out _).mono ?_
    rintro e w2 ⟨rfl, hb2⟩
    have hF2 := (hF1.below hb2).alloc (.cells X.cs.toArray 23)
    have hNX2 := Five.new w2 X
    have hBb := hB1.trans (hb2.mono hB1.size)
    have hB2 : Below w.heap.size w (w2.alloc (.cells X.cs.toArray 23)) := hBb.alloc hBb.size _
    clear hF1 hB1 hb2 hBb HPa
    unfold St.v
    unfold St.cs at hF2 hNX2 hB2
    go_wp2_with fail
    generalize w2.alloc _ = W2 at hF2 hNX2 hB2 ⊢
    generalize w2.heap.size = NX at hNX2 ⊢
    refine (HPr.out _).mono ?_
    rintro e w3 ⟨rfl, hb3⟩
    have hF3 := (hF2.below hb3).alloc (.cells X.cs.toArray 23)
    have hNX3 := (hNX2.below hb3).alloc (.cells X.cs.toArray 23)
    have hNV3 := Five.new w3 X
    have hBb := hB2.trans (hb3.mono hB2.size)
    have hB3 : Below w.heap.size w (w3.alloc (.cells X.cs.toArray 23)) := hBb.alloc hBb.size _
    clear hF2 hNX2 hB2 hb3 hBb HPr
    unfold St.v
    unfold St.cs at hF3 hNX3 hNV3 hB3
    go_wp2_with fail
    generalize w3.alloc _ = W3 at hF3 hNX3 hNV3 hB3 ⊢
    generalize w3.heap.size = NV at hNV3 ⊢
    refine (HSa.out _).mono ?_
    rintro e w4 ⟨rfl, hb4⟩
    have hF4 := (hF3.below hb4).alloc (.cells Y.cs.toArray 23)
    have hNX4 := (hNX3.below hb4).alloc (.cells Y.cs.toArray 23)
    have hNV4 := (hNV3.below hb4).alloc (.cells Y.cs.toArray 23)
    have hNY4 := Five.new w4 Y
    have hBb := hB3.trans (hb4.mono hB3.size)
    have hB4 : Below w.heap.size w (w4.alloc (.cells Y.cs.toArray 23)) := hBb.alloc hBb.size _
    clear hF3 hNX3 hNV3 hB3 hb4 hBb HSa
    unfold St.v
    unfold St.cs at hF4 hNX4 hNV4 hNY4 hB4
    go_wp2_with fail
    generalize w4.alloc _ = W4 at hF4 hNX4 hNV4 hNY4 hB4 ⊢
    generalize w4.heap.size = NY at hNY4 ⊢
    refine (HSr.out _).mono ?_
    rintro e w5 ⟨rfl, hb5⟩
    have hF5 := (hF4.below hb5).alloc (.cells Y.cs.toArray 23)
    have hNX5 := (hNX4.below hb5).alloc (.cells Y.cs.toArray 23)
    have hNV5 := (hNV4.below hb5).alloc (.cells Y.cs.toArray 23)
    have hNY5 := (hNY4.below hb5).alloc (.cells Y.cs.toArray 23)
    have hNU5 := Five.new w5 Y
    have hBb := hB4.trans (hb5.mono hB4.size)
    have hB5 : Below w.heap.size w (w5.alloc (.cells Y.cs.toArray 23)) := hBb.alloc hBb.size _
    clear hF4 hNX4 hNV4 hNY4 hB4 hb5 hBb HSr
    unfold St.v
    unfold St.cs at hF5 hNX5 hNV5 hNY5 hNU5 hB5
    go_upto_region 7 with fail
    generalize w5.alloc _ = W5 at hF5 hNX5 hNV5 hNY5 hNU5 hB5 ⊢
    generalize w5.heap.size = NU at hNU5 ⊢
    have hLie : Lie w F X Y NX NV NY NU W5 := ⟨hF5, hNX5, hNV5, hNY5, hNU5, hB5⟩
    clear hF5 hNX5 hNV5 hNY5 hNU5 hB5
    have hR1 := fun W => right_any F W hsh
    have hR2 := fun W => refright_any F W hsh
    unfold St.v at hR1 hR2
    generalize hrt : rtB F = r at hR1 hR2
    go_cut [84] (fun x wc => x = .bool false ∧ Five wc w.heap.size F ∧ Below w.heap.size w wc)
    case first =>
      refine wp_region_held_drew (S := (Lie w F X Y NX NV NY NU)) (by kernel_rfl) (hLie.drew) (fun hHeld => ?_)
      refine wpAnyH_take (i := 0) (oi := _) (v := .agg #[.string X.m, .string X.t, .int .i64 X.c, .string X.r, .int .i64 X.n]) rfl (by kernel_rfl) (by kernel_rfl) (by kernel_rfl) (fun _ _ _ h => h) (Or.inl ⟨by kernel_rfl, fun wS hSw => by have l0 := hSw.x.c0; have l1 := hSw.x.c1; have l2 := hSw.x.c2; have l3 := hSw.x.c3; have l4 := hSw.x.c4; go_simp⟩) (by first | trivial | assumption) ?_
      simp only [Act.put, List.setIfInBounds_toArray, List.set_cons_zero, List.set_cons_succ]
      refine wpAnyH_take (i := 1) (oi := _) (v := .agg #[.string X.m, .string X.t, .int .i64 X.c, .string X.r, .int .i64 X.n]) rfl (by kernel_rfl) (by kernel_rfl) (by kernel_rfl) (fun _ _ _ h => h) (Or.inl ⟨by kernel_rfl, fun wS hSw => by have l0 := hSw.v.c0; have l1 := hSw.v.c1; have l2 := hSw.v.c2; have l3 := hSw.v.c3; have l4 := hSw.v.c4; go_simp⟩) (by first | trivial | assumption) ?_
      simp only [Act.put, List.setIfInBounds_toArray, List.set_cons_zero, List.set_cons_succ]
      refine wpAnyH_take (i := 2) (oi := _) (v := .bool false) rfl (by kernel_rfl) (by kernel_rfl) (by kernel_rfl) (fun _ _ _ h => h) (Or.inl ⟨by kernel_rfl, fun wS hSw => by skip; go_simp⟩) (by first | trivial | assumption) ?_
      simp only [Act.put, List.setIfInBounds_toArray, List.set_cons_zero, List.set_cons_succ]
      refine wpAnyH_take (i := 3) (oi := _) (v := .bool false) rfl (by kernel_rfl) (by kernel_rfl) (by kernel_rfl) (fun _ _ _ h => h) (Or.inl ⟨by kernel_rfl, fun wS hSw => by skip; go_simp⟩) (by first | trivial | assumption) ?_
      simp only [Act.put, List.setIfInBounds_toArray, List.set_cons_zero, List.set_cons_succ]
      refine wpAnyH_take (i := 4) (oi := _) (v := .int .i64 eX) rfl (by kernel_rfl) (by kernel_rfl) (by kernel_rfl) (fun _ _ _ h => h) (Or.inl ⟨by kernel_rfl, fun wS hSw => by skip; go_simp⟩) (by first | trivial | assumption) ?_
      simp only [Act.put, List.setIfInBounds_toArray, List.set_cons_zero, List.set_cons_succ]
      refine wpAnyH_take (i := 5) (oi := _) (v := .int .i64 eX) rfl (by kernel_rfl) (by kernel_rfl) (by kernel_rfl) (fun _ _ _ h => h) (Or.inl ⟨by kernel_rfl, fun wS hSw => by skip; go_simp⟩) (by first | trivial | assumption) ?_
      simp only [Act.put, List.setIfInBounds_toArray, List.set_cons_zero, List.set_cons_succ]
      refine wpAnyH_take (i := 6) (oi := _) (v := .bool false) rfl (by kernel_rfl) (by kernel_rfl) (by kernel_rfl) (fun _ _ _ h => h) (Or.inl ⟨by kernel_rfl, fun wS hSw => by skip; go_simp⟩) (by first | trivial | assumption) ?_
      simp only [Act.put, List.setIfInBounds_toArray, List.set_cons_zero, List.set_cons_succ]
      refine wpAnyH_take (i := 7) (oi := _) (v := .bool false) rfl (by kernel_rfl) (by kernel_rfl) (by kernel_rfl) (fun _ _ _ h => h) (Or.inl ⟨by kernel_rfl, fun wS hSw => by skip; go_simp⟩) (by first | trivial | assumption) ?_
      simp only [Act.put, List.setIfInBounds_toArray, List.set_cons_zero, List.set_cons_succ]
      refine wpAnyH_take (i := 8) (oi := _) (v := .bool false) rfl (by kernel_rfl) (by kernel_rfl) (by kernel_rfl) (fun _ _ _ h => h) (Or.inl ⟨by kernel_rfl, fun wS hSw => by skip; go_simp⟩) (by first | trivial | assumption) ?_
      simp only [Act.put, List.setIfInBounds_toArray, List.set_cons_zero, List.set_cons_succ]
      refine wpAnyH_take (i := 9) (oi := _) (v := .agg #[.string Y.m, .string Y.t, .int .i64 Y.c, .string Y.r, .int .i64 Y.n]) rfl (by kernel_rfl) (by kernel_rfl) (by kernel_rfl) (fun _ _ _ h => h) (Or.inl ⟨by kernel_rfl, fun wS hSw => by have l0 := hSw.y.c0; have l1 := hSw.y.c1; have l2 := hSw.y.c2; have l3 := hSw.y.c3; have l4 := hSw.y.c4; go_simp⟩) (by first | trivial | assumption) ?_
      simp only [Act.put, List.setIfInBounds_toArray, List.set_cons_zero, List.set_cons_succ]
      refine wpAnyH_take (i := 10) (oi := _) (v := .agg #[.string Y.m, .string Y.t, .int .i64 Y.c, .string Y.r, .int .i64 Y.n]) rfl (by kernel_rfl) (by kernel_rfl) (by kernel_rfl) (fun _ _ _ h => h) (Or.inl ⟨by kernel_rfl, fun wS hSw => by have l0 := hSw.u.c0; have l1 := hSw.u.c1; have l2 := hSw.u.c2; have l3 := hSw.u.c3; have l4 := hSw.u.c4; go_simp⟩) (by first | trivial | assumption) ?_
      simp only [Act.put, List.setIfInBounds_toArray, List.set_cons_zero, List.set_cons_succ]
      refine wpAnyH_take (i := 11) (oi := _) (v := .bool false) rfl (by kernel_rfl) (by kernel_rfl) (by kernel_rfl) (fun _ _ _ h => h) (Or.inl ⟨by kernel_rfl, fun wS hSw => by skip; go_simp⟩) (by first | trivial | assumption) ?_
      simp only [Act.put, List.setIfInBounds_toArray, List.set_cons_zero, List.set_cons_succ]
      refine wpAnyH_take (i := 12) (oi := _) (v := .bool false) rfl (by kernel_rfl) (by kernel_rfl) (by kernel_rfl) (fun _ _ _ h => h) (Or.inl ⟨by kernel_rfl, fun wS hSw => by skip; go_simp⟩) (by first | trivial | assumption) ?_
      simp only [Act.put, List.setIfInBounds_toArray, List.set_cons_zero, List.set_cons_succ]
      refine wpAnyH_take (i := 13) (oi := _) (v := .bool false) rfl (by kernel_rfl) (by kernel_rfl) (by kernel_rfl) (fun _ _ _ h => h) (Or.inl ⟨by kernel_rfl, fun wS hSw => by skip; go_simp⟩) (by first | trivial | assumption) ?_
      simp only [Act.put, List.setIfInBounds_toArray, List.set_cons_zero, List.set_cons_succ]
      refine wpAnyH_take (i := 14) (oi := _) (v := .int .i64 eY) rfl (by kernel_rfl) (by kernel_rfl) (by kernel_rfl) (fun _ _ _ h => h) (Or.inl ⟨by kernel_rfl, fun wS hSw => by skip; go_simp⟩) (by first | trivial | assumption) ?_
      simp only [Act.put, List.setIfInBounds_toArray, List.set_cons_zero, List.set_cons_succ]
      refine wpAnyH_take (i := 15) (oi := _) (v := .int .i64 eY) rfl (by kernel_rfl) (by kernel_rfl) (by kernel_rfl) (fun _ _ _ h => h) (Or.inl ⟨by kernel_rfl, fun wS hSw => by skip; go_simp⟩) (by first | trivial | assumption) ?_
      simp only [Act.put, List.setIfInBounds_toArray, List.set_cons_zero, List.set_cons_succ]
      refine wpAnyH_take (i := 16) (oi := _) (v := .bool false) rfl (by kernel_rfl) (by kernel_rfl) (by kernel_rfl) (fun _ _ _ h => h) (Or.inl ⟨by kernel_rfl, fun wS hSw => by skip; go_simp⟩) (by first | trivial | assumption) ?_
      simp only [Act.put, List.setIfInBounds_toArray, List.set_cons_zero, List.set_cons_succ]
      refine wpAnyH_take (i := 17) (oi := _) (v := .bool false) rfl (by kernel_rfl) (by kernel_rfl) (by kernel_rfl) (fun _ _ _ h => h) (Or.inl ⟨by kernel_rfl, fun wS hSw => by skip; go_simp⟩) (by first | trivial | assumption) ?_
      simp only [Act.put, List.setIfInBounds_toArray, List.set_cons_zero, List.set_cons_succ]
      refine wpAnyH_take (i := 18) (oi := _) (v := .bool false) rfl (by kernel_rfl) (by kernel_rfl) (by kernel_rfl) (fun _ _ _ h => h) (Or.inl ⟨by kernel_rfl, fun wS hSw => by skip; go_simp⟩) (by first | trivial | assumption) ?_
      simp only [Act.put, List.setIfInBounds_toArray, List.set_cons_zero, List.set_cons_succ]
      refine wpAnyH_take (i := 19) (oi := _) (v := .agg #[.string F.m, .string F.t, .int .i64 F.c, .string F.r, .int .i64 F.n]) rfl (by kernel_rfl) (by kernel_rfl) (by kernel_rfl) (fun _ _ _ h => h) (Or.inl ⟨by kernel_rfl, fun wS hSw => by have l0 := hSw.f.c0; have l1 := hSw.f.c1; have l2 := hSw.f.c2; have l3 := hSw.f.c3; have l4 := hSw.f.c4; go_simp⟩) (by first | trivial | assumption) ?_
      simp only [Act.put, List.setIfInBounds_toArray, List.set_cons_zero, List.set_cons_succ]
      refine wpAnyH_take (i := 21) (oi := _) (v := .agg #[.string F.m, .string F.t, .int .i64 F.c, .string F.r, .int .i64 F.n]) rfl (by kernel_rfl) (by kernel_rfl) (by kernel_rfl) (fun _ _ _ h => h) (Or.inl ⟨by kernel_rfl, fun wS hSw => by have l0 := hSw.f.c0; have l1 := hSw.f.c1; have l2 := hSw.f.c2; have l3 := hSw.f.c3; have l4 := hSw.f.c4; go_simp⟩) (by first | trivial | assumption) ?_
      simp only [Act.put, List.setIfInBounds_toArray, List.set_cons_zero, List.set_cons_succ]
      refine wpAnyH_ready (rs := [20]) (by kernel_rfl) (by simp) ?_
      refine AllReadyH.cons (o := _) rfl (fun K hK => ?_) AllReadyH.nil
      go_simp
      refine (hR1 _).mono ?_
      rintro e w6 ⟨rfl, hb6⟩
      refine hK.out _ _ (hHeld.on hb6) (fun hHeld => ?_)
      clear hK K hb6
      refine wpAnyH_ready (rs := [22]) (by kernel_rfl) (by simp) ?_
      refine AllReadyH.cons (o := _) rfl (fun K hK => ?_) AllReadyH.nil
      go_simp
      refine (hR2 _).mono ?_
      rintro e w7 ⟨rfl, hb7⟩
      refine hK.out _ _ (hHeld.on hb7) (fun hHeld => ?_)
      clear hK K hb7
      refine wpAnyH_take (i := 23) (oi := _) (v := .bool false) rfl (by kernel_rfl) (by kernel_rfl) (by kernel_rfl) (fun _ _ _ h => h) (Or.inl ⟨by kernel_rfl, fun wS hSw => by skip; go_simp⟩) (by first | trivial | assumption) ?_
      simp only [Act.put, List.setIfInBounds_toArray, List.set_cons_zero, List.set_cons_succ]
      refine wpAnyH_take (i := 24) (oi := _) (v := .bool false) rfl (by kernel_rfl) (by kernel_rfl) (by kernel_rfl) (fun _ _ _ h => h) (Or.inl ⟨by kernel_rfl, fun wS hSw => by skip; go_simp⟩) (by first | trivial | assumption) ?_
      simp only [Act.put, List.setIfInBounds_toArray, List.set_cons_zero, List.set_cons_succ]
      refine wpAnyH_take (i := 25) (oi := _) (v := .bool false) rfl (by kernel_rfl) (by kernel_rfl) (by kernel_rfl) (fun _ _ _ h => h) (Or.inl ⟨by kernel_rfl, fun wS hSw => by skip; go_simp⟩) (by first | trivial | assumption) ?_
      simp only [Act.put, List.setIfInBounds_toArray, List.set_cons_zero, List.set_cons_succ]
      refine wpAnyH_take (i := 26) (oi := _) (v := .int .i64 c) rfl (by kernel_rfl) (by kernel_rfl) (by kernel_rfl) (fun _ _ _ h => h) (Or.inl ⟨by kernel_rfl, fun wS hSw => by skip; go_simp⟩) (by first | trivial | assumption) ?_
      simp only [Act.put, List.setIfInBounds_toArray, List.set_cons_zero, List.set_cons_succ]
      refine wpAnyH_take (i := 28) (oi := _) (v := .int .i64 c) rfl (by kernel_rfl) (by kernel_rfl) (by kernel_rfl) (fun _ _ _ h => h) (Or.inl ⟨by kernel_rfl, fun wS hSw => by skip; go_simp⟩) (by first | trivial | assumption) ?_
      simp only [Act.put, List.setIfInBounds_toArray, List.set_cons_zero, List.set_cons_succ]
      refine wpAnyH_ready (rs := [27]) (by kernel_rfl) (by simp) ?_
      refine AllReadyH.cons (o := _) rfl (fun K hK => ?_) AllReadyH.nil
      go_simp
      refine (HC1.out _).mono ?_
      rintro e w8 ⟨rfl, hb8⟩
      refine hK.out _ _ (hHeld.on hb8) (fun hHeld => ?_)
      clear hK K hb8
      refine wpAnyH_ready (rs := [29]) (by kernel_rfl) (by simp) ?_
      refine AllReadyH.cons (o := _) rfl (fun K hK => ?_) AllReadyH.nil
      go_simp
      refine (HC2.out _).mono ?_
      rintro e w9 ⟨rfl, hb9⟩
      refine hK.out _ _ (hHeld.on hb9) (fun hHeld => ?_)
      clear hK K hb9
      refine wpAnyH_take (i := 30) (oi := _) (v := .bool false) rfl (by kernel_rfl) (by kernel_rfl) (by kernel_rfl) (fun _ _ _ h => h) (Or.inl ⟨by kernel_rfl, fun wS hSw => by skip; go_simp⟩) (by first | trivial | assumption) ?_
      simp only [Act.put, List.setIfInBounds_toArray, List.set_cons_zero, List.set_cons_succ]
      refine wpAnyH_take (i := 31) (oi := _) (v := .bool false) rfl (by kernel_rfl) (by kernel_rfl) (by kernel_rfl) (fun _ _ _ h => h) (Or.inl ⟨by kernel_rfl, fun wS hSw => by skip; go_simp⟩) (by first | trivial | assumption) ?_
      simp only [Act.put, List.setIfInBounds_toArray, List.set_cons_zero, List.set_cons_succ]
      refine wpAnyH_take (i := 32) (oi := _) (v := .bool false) rfl (by kernel_rfl) (by kernel_rfl) (by kernel_rfl) (fun _ _ _ h => h) (Or.inl ⟨by kernel_rfl, fun wS hSw => by skip; go_simp⟩) (by first | trivial | assumption) ?_
      simp only [Act.put, List.setIfInBounds_toArray, List.set_cons_zero, List.set_cons_succ]
      refine wpAnyH_ready (rs := [33]) (by kernel_rfl) (by simp) ?_
      refine AllReadyH.cons (o := _) rfl (fun K hK => ?_) AllReadyH.nil
      go_simp
      refine (alive_any _).mono ?_
      rintro e w10 ⟨rfl, hb10⟩
      refine hK.out _ _ (hHeld.on hb10) (fun hHeld => ?_)
      clear hK K hb10
      refine wpAnyH_ready (rs := [34]) (by kernel_rfl) (by simp) ?_
      refine AllReadyH.cons (o := _) rfl (fun K hK => ?_) AllReadyH.nil
      go_simp
      refine hK.out _ _ (hHeld) (fun hHeld => ?_)
      clear hK K
      refine wpAnyH_ready (rs := [35]) (by kernel_rfl) (by simp) ?_
      refine AllReadyH.cons (o := _) rfl (fun K hK => ?_) AllReadyH.nil
      go_simp
      refine hK.out _ _ (hHeld) (fun hHeld => ?_)
      clear hK K
      refine wpAnyH_done (by kernel_rfl) ?_ _
      go_wp2_with fail
      go_meet
      exact ⟨rfl, hHeld.f, hHeld.b⟩
    case rest =>
      obtain ⟨rfl, hN6, hB6⟩ := hcut
      clear hLie hR1
      obtain ⟨c0, c1, c2, c3, c4, -, -⟩ := id hN6
      cases r
      · have e1 := (pr_no hrt).2
        have e2 := (pr_no hrt).1
        rw [e1, e2]
        clear e1 e2 hrt
        go_wp2_with fail
        refine (hR2 _).mono ?_
        rintro e w7 ⟨rfl, hb7⟩
        go_wp2_with fail
        go_ret
        exact ⟨rfl, hB6.trans (hb7.mono hB6.size)⟩
      · have e1 := (pr_yes hrt).2
        have e2 := (pr_yes hrt).1
        have HP := hide (refprint_any F · hsh hrt)
        rw [e1, e2]
        generalize wrS F = T at HP
        clear e1 e2 hrt
        go_wp2_with fail
        refine (hR2 _).mono ?_
        rintro e w7 ⟨rfl, hb7⟩
        have hB7 := hB6.trans (hb7.mono hB6.size)
        clear c0 c1 c2 c3 c4
        obtain ⟨c0, c1, c2, c3, c4, -, -⟩ := hN6.below hb7
        go_wp2_with fail
        refine (HP.out _).mono ?_
        rintro e w8 ⟨rfl, hb8⟩
        go_wp2_with fail
        go_ret
        exact ⟨rfl, hB7.trans (hb8.mono hB7.size)⟩

end Go.Proofs.YthpankelfhhjgaaDoor
