/- The walk of UriBack. -/
import Derived.Test.YtjegoceebdiaaaaDoorFb
namespace Go.Proofs.YtjegoceebdiaaaaDoor
set_option linter.unusedVariables false
set_option linter.unusedSimpArgs false
open Go.RowKit

set_option maxRecDepth 100000 in
set_option maxHeartbeats 2000000 in
theorem back_walk (u : U) (s : ByteArray) (w : World) (h1 : u.host.size ≤ maxLen) (h2 : u.path.size ≤ maxLen) (h3 : u.query.size ≤ maxLen) (hs : s.size ≤ maxLen) (ht : Tabs w) :
    Calls Tryd.prog 5 #[u.v, .string s] w fun e w' => e = .returned (.bool true) ∧ Below w.heap.size w w' := by
  have hnew := Six.new w u
  have hbn : Below w.heap.size w (w.alloc (.cells u.cs.toArray 23)) := (Below.refl _ _).alloc (Nat.le_refl _) _
  unfold U.cs at hnew hbn
  have hfew := few_any u
  have hsx := few_cut s 520
  unfold maxLen at hs
  go_enter Tryd.func5, Tryd.ntmps5
  unfold U.v
  go_wp2_with fail
  generalize World.alloc _ _ = W0 at hnew hbn ⊢
  go_cut [1] (fun s1 wc => s1 = .string (s.extract 0 (min (s.size : Int) 520).toNat) ∧ Six wc w.heap.size (fewU u) ∧ Below w.heap.size w wc)
  case first =>
    obtain ⟨c0, c1, c2, c3, c4, c5, -, -⟩ := id hnew.drew
    refine wp_region_held_drew (S := (fun _ => True)) (by kernel_rfl) (trivial) (fun hHeld => ?_)
    refine wpAnyH_take (i := 2) (oi := _) (v := .string s) rfl (by kernel_rfl) (by kernel_rfl) (by kernel_rfl) (fun _ _ _ h => h) (Or.inl ⟨by rfl, fun wS hSw => by go_simp⟩) (by first | trivial | assumption) ?_
    simp only [Act.put, List.setIfInBounds_toArray, List.set_cons_zero, List.set_cons_succ]
    refine wpAnyH_take (i := 3) (oi := _) (v := .string s) rfl (by kernel_rfl) (by kernel_rfl) (by kernel_rfl) (fun _ _ _ h => h) (Or.inl ⟨by rfl, fun wS hSw => by go_simp⟩) (by first | trivial | assumption) ?_
    simp only [Act.put, List.setIfInBounds_toArray, List.set_cons_zero, List.set_cons_succ]
    refine wpAnyH_take (i := 4) (oi := _) (v := .int .i64 s.size) rfl (by kernel_rfl) (by kernel_rfl) (by kernel_rfl) (fun _ _ _ h => h) (Or.inl ⟨by rfl, fun wS hSw => by go_simp⟩) (by first | trivial | assumption) ?_
    simp only [Act.put, List.setIfInBounds_toArray, List.set_cons_zero, List.set_cons_succ]
    refine wpAnyH_take (i := 5) (oi := _) (v := .int .i64 (min (s.size : Int) 520)) rfl (by kernel_rfl) (by kernel_rfl) (by kernel_rfl) (fun _ _ _ h => h) (Or.inl ⟨by rfl, fun wS hSw => by go_simp⟩) (by first | trivial | assumption) ?_
    simp only [Act.put, List.setIfInBounds_toArray, List.set_cons_zero, List.set_cons_succ]
    refine wpAnyH_take (i := 6) (oi := _) (v := .string (s.extract 0 (min (s.size : Int) 520).toNat)) rfl (by kernel_rfl) (by kernel_rfl) (by kernel_rfl) (fun _ _ _ h => h) (Or.inl ⟨by rfl, fun wS hSw => by go_simp; intro hx; exfalso; have := hx (by omega); omega⟩) (by first | trivial | assumption) ?_
    simp only [Act.put, List.setIfInBounds_toArray, List.set_cons_zero, List.set_cons_succ]
    refine wpAnyH_ready (rs := [0]) (by kernel_rfl) (by simp) ?_
    refine AllReadyH.cons (o := _) rfl (fun K hK => ?_) AllReadyH.nil
    go_simp
    refine hK.out _ _ (trivial) (fun hHeld => ?_)
    clear hK K
    refine wpAnyH_ready (rs := [1]) (by kernel_rfl) (by simp) ?_
    refine AllReadyH.cons (o := _) rfl (fun K hK => ?_) AllReadyH.nil
    go_simp
    refine (hfew W0.drew h1 h2 h3).mono ?_
    rintro e w1 ⟨rfl, hb1⟩
    unfold U.v
    refine hK.out _ _ (trivial) (fun hHeld => ?_)
    clear hK K
    have hN1 := hnew.drew.below hb1
    have hB1 := (below_drew hbn).trans (hb1.mono (below_drew hbn).size)
    obtain ⟨d0, d1, d2, d3, d4, d5, -, df⟩ := id hN1
    refine wpAnyH_ready (rs := [7]) (by kernel_rfl) (by simp) ?_
    refine AllReadyH.cons (o := _) rfl (fun K hK => ?_) AllReadyH.nil
    go_simp
    refine hK.out _ _ (trivial) (fun hHeld => ?_)
    clear hK K
    refine wpAnyH_ready (rs := [8]) (by kernel_rfl) (by simp) ?_
    refine AllReadyH.cons (o := _) rfl (fun K hK => ?_) AllReadyH.nil
    go_simp
    refine hK.out _ _ (trivial) (fun hHeld => ?_)
    clear hK K
    refine wpAnyH_done (by kernel_rfl) ?_ _
    go_wp2_with fail
    go_meet
    exact ⟨rfl, put6_six hN1 (fewU u), put6_below hB1 (Nat.le_refl _) (fewU u)⟩
  case rest =>
    clear hnew hbn
    obtain ⟨rfl, hN, hB⟩ := hcut
    have hsh := few_short u
    have hsx' : (s.extract 0 (min (s.size : Int) 520).toNat).size ≤ 520 := hsx
    clear hsx
    generalize fewU u = F at hN hsh ⊢
    generalize s.extract 0 (min (s.size : Int) 520).toNat = S at hsx' ⊢
    clear hfew h1 h2 h3
    have htc := ht.below hB
    obtain ⟨c0, c1, c2, c3, c4, c5, -, -⟩ := id hN
    go_wp2_with fail
    refine (print_any F _ hsh htc).mono ?_
    rintro e w1 ⟨rfl, hb1⟩
    have hN1 := hN.below hb1
    have hB1 := hB.trans (hb1.mono hB.size)
    clear hb1 hN hB htc c0 c1 c2 c3 c4 c5
    go_upto_if 28 with fail
    go_cut [5, 6, 7, 8] (fun s5 s6 s7 s8 wd => Below w.heap.size w wd)
    case first =>
      cases hrt : rtU F
      · have e1 : prE F = 1 := by unfold prE; rw [hrt]; rfl
        rw [e1]
        go_wp2_with fail
        go_meet
        exact hB1
      · have e1 : prE F = 0 := by unfold prE; rw [hrt]; rfl
        have e2 : prS F = wrS F := by unfold prS; rw [hrt]; rfl
        rw [e1, e2]
        have hwl : (wrS F).size ≤ 500 := by rw [wrS_size]; exact rt_len hrt
        obtain ⟨q1, q2⟩ := ps_wr hrt
        have hpa := parse_any (wrS F) w1 (by omega) (ht.below hB1)
        rw [wrS_list, q1, q2] at hpa
        clear e1 e2 q1 q2 hwl
        go_wp2_with fail
        refine hpa.mono ?_
        rintro e w2 ⟨rfl, hb2⟩
        have hN2 := hN1.below hb2
        have hB2 := hB1.trans (hb2.mono hB1.size)
        clear hb2 hN1 hB1 hpa
        unfold U.v
        obtain ⟨a0, a1, a2, a3, a4, a5, af⟩ := hN2.allocs
        go_wp2_with fail
        go_meet
        exact hB2.alloc hB2.size _
    case rest =>
    clear hN1 hB1
    have hB1 : Below w.heap.size w wc := hcut
    have hpa := parse_any S wc (by omega) (ht.below hB1)
    have hxs := ps_short S (by omega)
    rcases ps_cases S.data.toList with ⟨q1, q2⟩ | ⟨q1, q2⟩
    · rw [q1] at hpa
      clear q1
      generalize psU S.data.toList = X at hpa q2 hxs
      have e1 : prE X = 0 := by unfold prE; rw [q2]; rfl
      have e2 : prS X = wrS X := by unfold prS; rw [q2]; rfl
      have hwl : (wrS X).size ≤ 500 := by rw [wrS_size]; exact rt_len q2
      obtain ⟨q3, q4⟩ := ps_wr q2
      have HQ := hide q2
      have HE := hide (And.intro e1 e2)
      have HP := hide (And.intro q3 q4)
      clear q2 q3 q4 e1 e2
      go_wp2_with fail
      refine hpa.mono ?_
      rintro e w2 ⟨rfl, hb2⟩
      have hB2 := hB1.trans (hb2.mono hB1.size)
      clear hb2 hpa hcut hB1
      have hX := Six.new w2 X
      have hBx : Below w2.heap.size w2 (w2.alloc (.cells X.cs.toArray 23)) := (Below.refl _ _).alloc (Nat.le_refl _) _
      have hB3 := hB2.trans (hBx.mono hB2.size)
      unfold U.cs at hX hB3
      clear hBx
      unfold U.v
      go_wp2_with fail
      generalize World.alloc _ _ = W3 at hX hB3 ⊢
      refine (print_any X _ hxs (ht.below hB3)).mono ?_
      rw [HE.out.1, HE.out.2]
      rintro e w4 ⟨rfl, hb4⟩
      have hX4 := hX.below hb4
      have hB4 := hB3.trans (hb4.mono hB3.size)
      clear hb4 hX hB3
      have hp2 := parse_any (wrS X) w4 (by omega) (ht.below hB4)
      rw [wrS_list, HP.out.1, HP.out.2] at hp2
      go_wp2_with fail
      refine hp2.mono ?_
      rintro e w5 ⟨rfl, hb5⟩
      have hX5 := hX4.below hb5
      have hB5 := hB4.trans (hb5.mono hB4.size)
      clear hb5 hX4 hB4 hp2
      have hY := Six.new w5 X
      have hBy : Below w5.heap.size w5 (w5.alloc (.cells X.cs.toArray 23)) := (Below.refl _ _).alloc (Nat.le_refl _) _
      have hX6 := hX5.below hBy
      have hB6 := hB5.trans (hBy.mono hB5.size)
      unfold U.cs at hY hX6 hB6
      clear hBy hX5 hB5
      unfold U.v
      go_wp2_with fail
      generalize World.alloc _ _ = W6 at hY hX6 hB6 ⊢
      refine (alive_any _).mono ?_
      rintro e w7 ⟨rfl, hb7⟩
      have hX7 := hX6.below hb7
      have hY7 := hY.below hb7
      have hB7 := hB6.trans (hb7.mono hB6.size)
      clear hb7 hX6 hY hB6
      obtain ⟨c0, c1, c2, c3, c4, c5, -, -⟩ := id hX7
      go_wp2_with fail
      refine (right_any X _ hxs (ht.below hB7)).mono ?_
      rw [HQ.out]
      rintro e w8 ⟨rfl, hb8⟩
      have hX8 := hX7.below hb8
      have hY8 := hY7.below hb8
      have hB8 := hB7.trans (hb8.mono hB7.size)
      clear hb8 hX7 hY7 hB7 c0 c1 c2 c3 c4 c5
      obtain ⟨c0, c1, c2, c3, c4, c5, -, -⟩ := id hX8
      obtain ⟨d0, d1, d2, d3, d4, d5, -, -⟩ := id hY8
      go_wp2_with fail
      go_ret
      exact ⟨by simp, hB8⟩
    · rw [q2, U0_v] at hpa
      generalize psE S.data.toList = n at hpa q1
      have hnb : (n == 0) = false := by rw [beq_eq_false_iff_ne]; exact q1
      clear hxs q2
      go_wp2_with fail
      refine hpa.mono ?_
      rintro e w2 ⟨rfl, hb2⟩
      have hB2 := hB1.trans (hb2.mono hB1.size)
      clear hb2 hpa hcut hB1
      have hX := six_zero w2
      have hBx : Below w2.heap.size w2 (w2.alloc (.cells #[.bool false, .string ⟨#[]⟩, .int .i64 0, .string ⟨#[]⟩, .bool false, .string ⟨#[]⟩] 23)) := (Below.refl _ _).alloc (Nat.le_refl _) _
      have hB3 := hB2.trans (hBx.mono hB2.size)
      clear hBx
      go_wp2_with fail
      generalize World.alloc _ _ = W3 at hX hB3 ⊢
      refine (alive_any _).mono ?_
      rintro e w4 ⟨rfl, hb4⟩
      have hX4 := hX.below hb4
      have hB4 := hB3.trans (hb4.mono hB3.size)
      clear hb4 hX hB3
      obtain ⟨c0, c1, c2, c3, c4, c5⟩ := hX4.zero
      go_wp2_with fail
      go_ret
      exact ⟨rfl, hB4⟩

end Go.Proofs.YtjegoceebdiaaaaDoor
