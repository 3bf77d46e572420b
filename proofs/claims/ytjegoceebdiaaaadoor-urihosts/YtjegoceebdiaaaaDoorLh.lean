/- The walk of UriHosts. -/
import Derived.Test.YtjegoceebdiaaaaDoorFb
import Derived.Test.YtjegoceebdiaaaaDoorMh
import Derived.Test.YtjegoceebdiaaaaDoorSh
namespace Go.Proofs.YtjegoceebdiaaaaDoor
set_option linter.unusedVariables false
set_option linter.unusedSimpArgs false
open Go.RowKit

theorem upper_any {s : ByteArray} (w : World) (hs : s.size ≤ 1000) (ha : ∀ (j : Nat) (b : UInt8), s.data.toList[j]? = some b → b.toNat < 128) :
    Calls Tryd.prog 22 #[.string s] w fun e w' => e = .returned (.string (upS s)) ∧ Below w.heap.size w w' := Tryd.strings_ToUpper_ascii s w (by omega) ha

set_option maxRecDepth 100000 in
set_option maxHeartbeats 2000000 in
theorem hosts_walk (u : U) (w : World) (h1 : u.host.size ≤ maxLen) (h2 : u.path.size ≤ maxLen) (h3 : u.query.size ≤ maxLen) (ht : Tabs w) :
    Calls Tryd.prog 8 #[u.v] w fun e w' => e = .returned (.bool true) ∧ Below w.heap.size w w' := by
  have hnew := Six.new w u
  have hbn : Below w.heap.size w (w.alloc (.cells u.cs.toArray 23)) := (Below.refl _ _).alloc (Nat.le_refl _) _
  unfold U.cs at hnew hbn
  have hfew := few_any u
  go_enter Tryd.func8, Tryd.ntmps8
  unfold U.v
  go_upto_region 1 with fail
  generalize World.alloc _ _ = W0 at hnew hbn ⊢
  obtain ⟨c0, c1, c2, c3, c4, c5, -, -⟩ := id hnew
  have hfw := hfew W0 h1 h2 h3
  unfold U.v at hfw
  go_wp2_with fail
  refine hfw.mono ?_
  rintro e w1 ⟨rfl, hb1⟩
  have hN1 := hnew.below hb1
  have hB1 := hbn.trans (hb1.mono hbn.size)
  clear hb1 hnew hbn hfw hfew c0 c1 c2 c3 c4 c5
  obtain ⟨d0, d1, d2, d3, d4, d5, -, df⟩ := id hN1
  go_upto_region 2 with fail
  have hN := put6_six hN1 (fewU u)
  have hB := put6_below hB1 (Nat.le_refl _) (fewU u)
  dsimp only [put6] at hN hB
  clear d0 d1 d2 d3 d4 d5 df hN1 hB1
  have hsh := few_short u
  have hh5 := few_host u
  generalize World.setCell _ _ _ = W2 at hN hB ⊢
  generalize fewU u = F at hN hsh hh5 ⊢
  clear h1 h2 h3
  obtain ⟨c0, c1, c2, c3, c4, c5, -, -⟩ := id hN
  have hpa := print_any F W2 hsh (ht.below hB)
  cases hrt : rtU F
  · have e1 : prE F = 1 := by unfold prE; rw [hrt]; rfl
    rw [e1] at hpa
    clear e1
    go_wp2_with fail
    refine hpa.mono ?_
    rintro e w3 ⟨rfl, hb3⟩
    have hB3 := hB.trans (hb3.mono hB.size)
    clear hb3 hpa hB hN c0 c1 c2 c3 c4 c5
    go_wp2_with fail
    refine (alive_any _).mono ?_
    rintro e w4 ⟨rfl, hb4⟩
    go_wp2_with fail
    go_ret
    exact ⟨rfl, hB3.trans (hb4.mono hB3.size)⟩
  · have e1 : prE F = 0 := by unfold prE; rw [hrt]; rfl
    have e2 : prS F = wrS F := by unfold prS; rw [hrt]; rfl
    rw [e1, e2] at hpa
    clear e1 e2
    cases ha : F.abs
    · have HRT := hide hrt
      clear hrt
      have hFv : F.v = .agg #[.bool false, .string F.host, .int .i64 F.port, .string F.path, .bool F.asks, .string F.query] := by unfold U.v; rw [ha]
      rw [hFv] at hpa
      go_wp2_with fail
      refine hpa.mono ?_
      rintro e w3 ⟨rfl, hb3⟩
      have hN3 := hN.below hb3
      have hB3 := hB.trans (hb3.mono hB.size)
      clear hb3 hpa hB hN c0 c1 c2 c3 c4 c5
      obtain ⟨c0, c1, c2, c3, c4, c5, -, -⟩ := id hN3
      rw [ha] at c0
      go_wp2_with fail
      refine (alive_any _).mono ?_
      rintro e w4 ⟨rfl, hb4⟩
      go_wp2_with fail
      go_ret
      exact ⟨rfl, hB3.trans (hb4.mono hB3.size)⟩
    · have hwl : (wrS F).size ≤ 500 := by rw [wrS_size]; exact rt_len hrt
      have hlong := wr_long ha
      have hwrap : IntKind.i64.wrap (7 + (F.host.size : Int)) = 7 + (F.host.size : Int) := i64_wrap_id _ (by omega) (by omega)
      have htn : (7 + (F.host.size : Int)).toNat = 7 + F.host.size := by omega
      obtain ⟨a1, a2⟩ := ps_up hrt ha
      obtain ⟨b1, b2⟩ := ps_bare hrt ha
      have hasc := head_ascii hrt ha
      have hsz : (headS F).size = 7 + F.host.size := by rw [← size_list, headS_list ha, head_len]
      have hH : (wrS F).extract 0 (7 + F.host.size) = headS F := rfl
      have hQ : (wrS F).extract (7 + F.host.size) (wrS F).size = tailS F := rfl
      have hsq : (tailS F).size ≤ 500 := by unfold tailS; rw [ByteArray.size_extract]; omega
      have hup := upS_size (headS F)
      have hbv : (bareU F).v = .agg #[.bool true, .string F.host, .int .i64 0, .string ⟨#[47]⟩, .bool false, .string ⟨#[]⟩] := rfl
      have hbc : (bareU F).cs.toArray = #[.bool true, .string F.host, .int .i64 0, .string ⟨#[47]⟩, .bool false, .string ⟨#[]⟩] := rfl
      have hFv : F.v = .agg #[.bool true, .string F.host, .int .i64 F.port, .string F.path, .bool F.asks, .string F.query] := by unfold U.v; rw [ha]
      have hFe : (⟨true, F.host, F.port, F.path, F.asks, F.query⟩ : U) = F := u_ext ha.symm rfl rfl rfl rfl rfl
      have HRT := hide hrt
      clear hrt
      generalize wrS F = T at hpa hwl hlong hH hQ
      generalize headS F = H at a1 a2 b1 b2 hasc hsz hH hup
      generalize tailS F = Q at a1 a2 hQ hsq
      have hpu : ∀ w', Tabs w' → Calls Tryd.prog 11 #[.string (upS H ++ Q)] w' fun e w'' => e = .returned (.tuple #[F.v, .int .i64 0]) ∧ Below w'.heap.size w' w'' := by
        intro w' hw'
        have := parse_any (upS H ++ Q) w' (by rw [ByteArray.size_append]; omega) hw'
        rwa [a1, a2] at this
      have hpb : ∀ w', Tabs w' → Calls Tryd.prog 11 #[.string H] w' fun e w'' => e = .returned (.tuple #[(bareU F).v, .int .i64 0]) ∧ Below w'.heap.size w' w'' := by
        intro w' hw'
        have := parse_any H w' (by omega) hw'
        rwa [b1, b2] at this
      clear a1 a2 b1 b2
      have hcu : ∀ w', Calls Tryd.prog 22 #[.string H] w' fun e w'' => e = .returned (.string (upS H)) ∧ Below w'.heap.size w' w'' := fun w' => upper_any w' (by omega) hasc
      have HAS := hide hasc
      clear hasc
      rw [hFv] at hpu hpa
      rw [hbv] at hpb
      have hle : 7 + (F.host.size : Int) ≤ (T.size : Int) := by omega
      have hge : (0 : Int) ≤ 7 + (F.host.size : Int) := by omega
      have hT63 : (T.size : Int) ≤ 500 := by omega
      clear hwl hlong
      go_wp2_with fail
      refine hpa.mono ?_
      rintro e w3 ⟨rfl, hb3⟩
      have hN3 := hN.below hb3
      have hB3 := hB.trans (hb3.mono hB.size)
      clear hb3 hpa hB hN c0 c1 c2 c3 c4 c5
      obtain ⟨c0, c1, c2, c3, c4, c5, -, -⟩ := id hN3
      rw [ha] at c0
      go_upto_region 8 with fail
      go_cut [6, 7] (fun s6 s7 wc => ∃ N : Nat, s6 = .pointer (some ⟨N, 0, none⟩) ∧ s7 = .int .i64 0 ∧ w.heap.size < N ∧ Six wc N F ∧ Six wc w.heap.size F ∧ Below w.heap.size w wc)
      case first =>
        clear c0 c1 c2 c3 c4 c5
        refine wp_region_held_drew (S := (fun _ => True)) (by kernel_rfl) (trivial) (fun hHeld => ?_)
        refine wpAnyH_take (i := 0) (oi := _) (v := .string T) rfl (by kernel_rfl) (by kernel_rfl) (by kernel_rfl) (fun _ _ _ h => h) (Or.inl ⟨by rfl, fun wS hSw => by go_simp⟩) (by first | trivial | assumption) ?_
        simp only [Act.put, List.setIfInBounds_toArray, List.set_cons_zero, List.set_cons_succ]
        refine wpAnyH_take (i := 1) (oi := _) (v := .int .i64 (7 + (F.host.size : Int))) rfl (by kernel_rfl) (by kernel_rfl) (by kernel_rfl) (fun _ _ _ h => h) (Or.inl ⟨by rfl, fun wS hSw => by go_simp⟩) (by first | trivial | assumption) ?_
        simp only [Act.put, List.setIfInBounds_toArray, List.set_cons_zero, List.set_cons_succ]
        refine wpAnyH_take (i := 2) (oi := _) (v := .string H) rfl (by kernel_rfl) (by kernel_rfl) (by kernel_rfl) (fun _ _ _ h => h) (Or.inl ⟨by rfl, fun wS hSw => by go_simp⟩) (by first | trivial | assumption) ?_
        simp only [Act.put, List.setIfInBounds_toArray, List.set_cons_zero, List.set_cons_succ]
        refine wpAnyH_take (i := 4) (oi := _) (v := .string T) rfl (by kernel_rfl) (by kernel_rfl) (by kernel_rfl) (fun _ _ _ h => h) (Or.inl ⟨by rfl, fun wS hSw => by go_simp⟩) (by first | trivial | assumption) ?_
        simp only [Act.put, List.setIfInBounds_toArray, List.set_cons_zero, List.set_cons_succ]
        refine wpAnyH_take (i := 5) (oi := _) (v := .int .i64 (7 + (F.host.size : Int))) rfl (by kernel_rfl) (by kernel_rfl) (by kernel_rfl) (fun _ _ _ h => h) (Or.inl ⟨by rfl, fun wS hSw => by go_simp⟩) (by first | trivial | assumption) ?_
        simp only [Act.put, List.setIfInBounds_toArray, List.set_cons_zero, List.set_cons_succ]
        refine wpAnyH_take (i := 6) (oi := _) (v := .string Q) rfl (by kernel_rfl) (by kernel_rfl) (by kernel_rfl) (fun _ _ _ h => h) (Or.inl ⟨by rfl, fun wS hSw => by go_simp⟩) (by first | trivial | assumption) ?_
        simp only [Act.put, List.setIfInBounds_toArray, List.set_cons_zero, List.set_cons_succ]
        refine wpAnyH_ready (rs := [3, 12]) (by kernel_rfl) (by simp) ?_
        refine AllReadyH.cons (o := _) rfl (fun K hK => ?_) (AllReadyH.cons (o := _) rfl (fun K hK => ?_) AllReadyH.nil)
        · go_simp
          refine (hcu w3.drew).mono ?_
          rintro e w4 ⟨rfl, hb4⟩
          refine hK.out _ _ (trivial) (fun hHeld => ?_)
          clear hK K
          have hN4 := hN3.drew.below hb4
          have hB4 := (below_drew hB3).trans (hb4.mono (below_drew hB3).size)
          clear hb4
          refine wpAnyH_take (i := 7) (oi := _) (v := .string (upS H ++ Q)) rfl (by kernel_rfl) (by kernel_rfl) (by kernel_rfl) (fun _ _ _ h => h) (Or.inl ⟨by rfl, fun wS hSw => by go_simp; omega⟩) (by first | trivial | assumption) ?_
          simp only [Act.put, List.setIfInBounds_toArray, List.set_cons_zero, List.set_cons_succ]
          refine wpAnyH_ready (rs := [8, 12]) (by kernel_rfl) (by simp) ?_
          refine AllReadyH.cons (o := _) rfl (fun K hK => ?_) (AllReadyH.cons (o := _) rfl (fun K hK => ?_) AllReadyH.nil)
          · go_simp
            refine (hpu w4 (ht.below hB4)).mono ?_
            rintro e w5 ⟨rfl, hb5⟩
            refine hK.out _ _ (trivial) (fun hHeld => ?_)
            clear hK K
            have hN5 := hN4.below hb5
            have hB5 := hB4.trans (hb5.mono hB4.size)
            clear hb5
            refine wpAnyH_take (i := 9) (oi := _) (v := .tuple #[.agg #[.bool true, .string F.host, .int .i64 F.port, .string F.path, .bool F.asks, .string F.query], .int .i64 0]) rfl (by kernel_rfl) (by kernel_rfl) (by kernel_rfl) (fun _ _ _ h => h) (Or.inl ⟨by rfl, fun wS hSw => by go_simp⟩) (by first | trivial | assumption) ?_
            simp only [Act.put, List.setIfInBounds_toArray, List.set_cons_zero, List.set_cons_succ]
            refine wpAnyH_take (i := 10) (oi := _) (v := .agg #[.bool true, .string F.host, .int .i64 F.port, .string F.path, .bool F.asks, .string F.query]) rfl (by kernel_rfl) (by kernel_rfl) (by kernel_rfl) (fun _ _ _ h => h) (Or.inl ⟨by rfl, fun wS hSw => by go_simp⟩) (by first | trivial | assumption) ?_
            simp only [Act.put, List.setIfInBounds_toArray, List.set_cons_zero, List.set_cons_succ]
            refine wpAnyH_take (i := 11) (oi := _) (v := .int .i64 0) rfl (by kernel_rfl) (by kernel_rfl) (by kernel_rfl) (fun _ _ _ h => h) (Or.inl ⟨by rfl, fun wS hSw => by go_simp⟩) (by first | trivial | assumption) ?_
            simp only [Act.put, List.setIfInBounds_toArray, List.set_cons_zero, List.set_cons_succ]
            have hl5 := hN5.lt
            have hY5 := six_zero w5
            have hN6 := hN5.alloc (.cells #[.bool false, .string ⟨#[]⟩, .int .i64 0, .string ⟨#[]⟩, .bool false, .string ⟨#[]⟩] 23)
            have hB6 := hB5.alloc hB5.size (.cells #[.bool false, .string ⟨#[]⟩, .int .i64 0, .string ⟨#[]⟩, .bool false, .string ⟨#[]⟩] 23)
            refine wpAnyH_ready (rs := [12]) (by kernel_rfl) (by simp) ?_
            refine AllReadyH.cons (o := _) rfl (fun K hK => ?_) AllReadyH.nil
            go_simp
            refine hK.out _ _ (trivial) (fun hHeld => ?_)
            clear hK K
            generalize w5.heap.size = M at hl5 hY5 ⊢
            generalize World.alloc _ _ = W6 at hY5 hN6 hB6 ⊢
            obtain ⟨y0, y1, y2, y3, y4, y5⟩ := hY5.zero
            have yf := hY5.fz
            refine wpAnyH_ready (rs := [13]) (by kernel_rfl) (by simp) ?_
            refine AllReadyH.cons (o := _) rfl (fun K hK => ?_) AllReadyH.nil
            go_simp
            refine hK.out _ _ (trivial) (fun hHeld => ?_)
            clear hK K
            refine wpAnyH_ready (rs := [14]) (by kernel_rfl) (by simp) ?_
            refine AllReadyH.cons (o := _) rfl (fun K hK => ?_) AllReadyH.nil
            go_simp
            refine hK.out _ _ (trivial) (fun hHeld => ?_)
            clear hK K
            refine wpAnyH_done (by kernel_rfl) ?_ _
            go_wp2_with fail
            go_meet
            have hP := put6_six hY5 ⟨true, F.host, F.port, F.path, F.asks, F.query⟩
            have hO := put6_other (M := M) hN6 ⟨true, F.host, F.port, F.path, F.asks, F.query⟩ (by omega)
            have hE := put6_below hB6 (show w.heap.size ≤ M by omega) ⟨true, F.host, F.port, F.path, F.asks, F.query⟩
            dsimp only [put6] at hP hO hE
            rw [hFe] at hP
            exact ⟨M, rfl, rfl, hl5, hP, hO, hE⟩
          · go_simp
            refine hK.out _ _ trivial (fun hHeld => ?_)
            clear hK K
            have hl5 := hN4.lt
            have hY5 := six_zero w4
            have hN5 := hN4.alloc (.cells #[.bool false, .string ⟨#[]⟩, .int .i64 0, .string ⟨#[]⟩, .bool false, .string ⟨#[]⟩] 23)
            have hB5 := hB4.alloc hB4.size (.cells #[.bool false, .string ⟨#[]⟩, .int .i64 0, .string ⟨#[]⟩, .bool false, .string ⟨#[]⟩] 23)
            generalize w4.heap.size = M at hl5 hY5 ⊢
            generalize World.alloc _ _ = W5 at hY5 hN5 hB5 ⊢
            refine wpAnyH_ready (rs := [8]) (by kernel_rfl) (by simp) ?_
            refine AllReadyH.cons (o := _) rfl (fun K hK => ?_) AllReadyH.nil
            go_simp
            refine (hpu W5 (ht.below hB5)).mono ?_
            rintro e w6 ⟨rfl, hb6⟩
            refine hK.out _ _ (trivial) (fun hHeld => ?_)
            clear hK K
            have hN6 := hN5.below hb6
            have hY6 := hY5.below hb6
            have hB6 := hB5.trans (hb6.mono hB5.size)
            clear hb6
            refine wpAnyH_take (i := 9) (oi := _) (v := .tuple #[.agg #[.bool true, .string F.host, .int .i64 F.port, .string F.path, .bool F.asks, .string F.query], .int .i64 0]) rfl (by kernel_rfl) (by kernel_rfl) (by kernel_rfl) (fun _ _ _ h => h) (Or.inl ⟨by rfl, fun wS hSw => by go_simp⟩) (by first | trivial | assumption) ?_
            simp only [Act.put, List.setIfInBounds_toArray, List.set_cons_zero, List.set_cons_succ]
            refine wpAnyH_take (i := 10) (oi := _) (v := .agg #[.bool true, .string F.host, .int .i64 F.port, .string F.path, .bool F.asks, .string F.query]) rfl (by kernel_rfl) (by kernel_rfl) (by kernel_rfl) (fun _ _ _ h => h) (Or.inl ⟨by rfl, fun wS hSw => by go_simp⟩) (by first | trivial | assumption) ?_
            simp only [Act.put, List.setIfInBounds_toArray, List.set_cons_zero, List.set_cons_succ]
            refine wpAnyH_take (i := 11) (oi := _) (v := .int .i64 0) rfl (by kernel_rfl) (by kernel_rfl) (by kernel_rfl) (fun _ _ _ h => h) (Or.inl ⟨by rfl, fun wS hSw => by go_simp⟩) (by first | trivial | assumption) ?_
            simp only [Act.put, List.setIfInBounds_toArray, List.set_cons_zero, List.set_cons_succ]
            obtain ⟨y0, y1, y2, y3, y4, y5⟩ := hY6.zero
            have yf := hY6.fz
            refine wpAnyH_ready (rs := [13]) (by kernel_rfl) (by simp) ?_
            refine AllReadyH.cons (o := _) rfl (fun K hK => ?_) AllReadyH.nil
            go_simp
            refine hK.out _ _ (trivial) (fun hHeld => ?_)
            clear hK K
            refine wpAnyH_ready (rs := [14]) (by kernel_rfl) (by simp) ?_
            refine AllReadyH.cons (o := _) rfl (fun K hK => ?_) AllReadyH.nil
            go_simp
            refine hK.out _ _ (trivial) (fun hHeld => ?_)
            clear hK K
            refine wpAnyH_done (by kernel_rfl) ?_ _
            go_wp2_with fail
            go_meet
            have hP := put6_six hY6 ⟨true, F.host, F.port, F.path, F.asks, F.query⟩
            have hO := put6_other (M := M) hN6 ⟨true, F.host, F.port, F.path, F.asks, F.query⟩ (by omega)
            have hE := put6_below hB6 (show w.heap.size ≤ M by omega) ⟨true, F.host, F.port, F.path, F.asks, F.query⟩
            dsimp only [put6] at hP hO hE
            rw [hFe] at hP
            exact ⟨M, rfl, rfl, hl5, hP, hO, hE⟩
        · go_simp
          refine hK.out _ _ trivial (fun hHeld => ?_)
          clear hK K
          have hl5 := hN3.lt
          have hY5 := (six_zero w3).drew
          have hN5 := (hN3.alloc (.cells #[.bool false, .string ⟨#[]⟩, .int .i64 0, .string ⟨#[]⟩, .bool false, .string ⟨#[]⟩] 23)).drew
          have hB5 := below_drew (hB3.alloc hB3.size (.cells #[.bool false, .string ⟨#[]⟩, .int .i64 0, .string ⟨#[]⟩, .bool false, .string ⟨#[]⟩] 23))
          generalize w3.heap.size = M at hl5 hY5 ⊢
          generalize World.drew _ = W5 at hY5 hN5 hB5 ⊢
          refine wpAnyH_ready (rs := [3]) (by kernel_rfl) (by simp) ?_
          refine AllReadyH.cons (o := _) rfl (fun K hK => ?_) AllReadyH.nil
          go_simp
          refine (hcu W5).mono ?_
          rintro e w6 ⟨rfl, hb6⟩
          refine hK.out _ _ (trivial) (fun hHeld => ?_)
          clear hK K
          have hN6 := hN5.below hb6
          have hY6 := hY5.below hb6
          have hB6 := hB5.trans (hb6.mono hB5.size)
          clear hb6
          refine wpAnyH_take (i := 7) (oi := _) (v := .string (upS H ++ Q)) rfl (by kernel_rfl) (by kernel_rfl) (by kernel_rfl) (fun _ _ _ h => h) (Or.inl ⟨by rfl, fun wS hSw => by go_simp; omega⟩) (by first | trivial | assumption) ?_
          simp only [Act.put, List.setIfInBounds_toArray, List.set_cons_zero, List.set_cons_succ]
          refine wpAnyH_ready (rs := [8]) (by kernel_rfl) (by simp) ?_
          refine AllReadyH.cons (o := _) rfl (fun K hK => ?_) AllReadyH.nil
          go_simp
          refine (hpu w6 (ht.below hB6)).mono ?_
          rintro e w7 ⟨rfl, hb7⟩
          refine hK.out _ _ (trivial) (fun hHeld => ?_)
          clear hK K
          have hN7 := hN6.below hb7
          have hY7 := hY6.below hb7
          have hB7 := hB6.trans (hb7.mono hB6.size)
          clear hb7
          refine wpAnyH_take (i := 9) (oi := _) (v := .tuple #[.agg #[.bool true, .string F.host, .int .i64 F.port, .string F.path, .bool F.asks, .string F.query], .int .i64 0]) rfl (by kernel_rfl) (by kernel_rfl) (by kernel_rfl) (fun _ _ _ h => h) (Or.inl ⟨by rfl, fun wS hSw => by go_simp⟩) (by first | trivial | assumption) ?_
          simp only [Act.put, List.setIfInBounds_toArray, List.set_cons_zero, List.set_cons_succ]
          refine wpAnyH_take (i := 10) (oi := _) (v := .agg #[.bool true, .string F.host, .int .i64 F.port, .string F.path, .bool F.asks, .string F.query]) rfl (by kernel_rfl) (by kernel_rfl) (by kernel_rfl) (fun _ _ _ h => h) (Or.inl ⟨by rfl, fun wS hSw => by go_simp⟩) (by first | trivial | assumption) ?_
          simp only [Act.put, List.setIfInBounds_toArray, List.set_cons_zero, List.set_cons_succ]
          refine wpAnyH_take (i := 11) (oi := _) (v := .int .i64 0) rfl (by kernel_rfl) (by kernel_rfl) (by kernel_rfl) (fun _ _ _ h => h) (Or.inl ⟨by rfl, fun wS hSw => by go_simp⟩) (by first | trivial | assumption) ?_
          simp only [Act.put, List.setIfInBounds_toArray, List.set_cons_zero, List.set_cons_succ]
          obtain ⟨y0, y1, y2, y3, y4, y5⟩ := hY7.zero
          have yf := hY7.fz
          refine wpAnyH_ready (rs := [13]) (by kernel_rfl) (by simp) ?_
          refine AllReadyH.cons (o := _) rfl (fun K hK => ?_) AllReadyH.nil
          go_simp
          refine hK.out _ _ (trivial) (fun hHeld => ?_)
          clear hK K
          refine wpAnyH_ready (rs := [14]) (by kernel_rfl) (by simp) ?_
          refine AllReadyH.cons (o := _) rfl (fun K hK => ?_) AllReadyH.nil
          go_simp
          refine hK.out _ _ (trivial) (fun hHeld => ?_)
          clear hK K
          refine wpAnyH_done (by kernel_rfl) ?_ _
          go_wp2_with fail
          go_meet
          have hP := put6_six hY7 ⟨true, F.host, F.port, F.path, F.asks, F.query⟩
          have hO := put6_other (M := M) hN7 ⟨true, F.host, F.port, F.path, F.asks, F.query⟩ (by omega)
          have hE := put6_below hB7 (show w.heap.size ≤ M by omega) ⟨true, F.host, F.port, F.path, F.asks, F.query⟩
          dsimp only [put6] at hP hO hE
          rw [hFe] at hP
          exact ⟨M, rfl, rfl, hl5, hP, hO, hE⟩
      case rest =>
        clear hN3 hB3 c0 c1 c2 c3 c4 c5
        obtain ⟨M, rfl, rfl, hlM, hX, hN, hB⟩ := hcut
        have hpc := hpb wc (ht.below hB)
        clear hcu hpu hpb
        go_wp2_with fail
        refine hpc.mono ?_
        rintro e w4 ⟨rfl, hb4⟩
        have hX4 := hX.below hb4
        have hN4 := hN.below hb4
        have hB4 := hB.trans (hb4.mono hB.size)
        clear hb4 hpc hX hN hB
        have hY : Six (w4.alloc (.cells #[.bool true, .string F.host, .int .i64 0, .string ⟨#[47]⟩, .bool false, .string ⟨#[]⟩] 23)) w4.heap.size (bareU F) := Six.new w4 (bareU F)
        have hX5 := hX4.alloc (.cells #[.bool true, .string F.host, .int .i64 0, .string ⟨#[47]⟩, .bool false, .string ⟨#[]⟩] 23)
        have hN5 := hN4.alloc (.cells #[.bool true, .string F.host, .int .i64 0, .string ⟨#[47]⟩, .bool false, .string ⟨#[]⟩] 23)
        have hB5 := hB4.alloc hB4.size (.cells #[.bool true, .string F.host, .int .i64 0, .string ⟨#[47]⟩, .bool false, .string ⟨#[]⟩] 23)
        go_upto_region 10 with fail
        generalize w4.heap.size = L at hY ⊢
        generalize World.alloc _ _ = W5 at hY hX5 hN5 hB5 ⊢
        clear hX4 hN4 hB4
        go_wp2_with fail
        refine (alive_any _).mono ?_
        rintro e w6 ⟨rfl, hb6⟩
        have hX6 := hX5.below hb6
        have hN6 := hN5.below hb6
        have hY6 := hY.below hb6
        have hB6 := hB5.trans (hb6.mono hB5.size)
        clear hb6 hX5 hN5 hY hB5
        obtain ⟨c0, c1, c2, c3, c4, c5, -, -⟩ := id hN6
        obtain ⟨d0, d1, d2, d3, d4, d5, -, -⟩ := id hX6
        have e0 : w6.cell? ⟨L, 0, none⟩ = some (.bool true) := hY6.c0
        have e1 : w6.cell? ⟨L, 1, none⟩ = some (.string F.host) := hY6.c1
        have e2 : w6.cell? ⟨L, 2, none⟩ = some (.int .i64 0) := hY6.c2
        have e3 : w6.cell? ⟨L, 3, none⟩ = some (.string ⟨#[47]⟩) := hY6.c3
        have e4 : w6.cell? ⟨L, 4, none⟩ = some (.bool false) := hY6.c4
        have e5 : w6.cell? ⟨L, 5, none⟩ = some (.string ⟨#[]⟩) := hY6.c5
        rw [ha] at c0 d0
        go_wp2_with fail
        go_ret
        exact ⟨by simp, hB6⟩

end Go.Proofs.YtjegoceebdiaaaaDoor
