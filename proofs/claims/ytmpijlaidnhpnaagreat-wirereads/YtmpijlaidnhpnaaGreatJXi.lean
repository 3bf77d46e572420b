/- The walk of what reads a head on. -/
import Derived.Test.YtmpijlaidnhpnaaGreatJXh
import Derived.Test.YtmpijlaidnhpnaaGreatJHf
namespace Go.Proofs.YtmpijlaidnhpnaaGreat
set_option linter.unusedVariables false
set_option linter.unusedSimpArgs false
set_option maxRecDepth 100000
open Go.RowKit Ck

theorem red_stop {w : World} {N : Nat} {a : Bool} {t : ByteArray} {E : Int} {u : Value} {l : List MV} (h : Blk w N 58 ((stopR a t E).gs (.slice none 0 0) u)) (hu : MR w (N + 1) u l) : Red w N (stopR a t E) l [] := ⟨_, u, l, h, FR.nil _, hu, by simp⟩

set_option maxHeartbeats 16000000 in
theorem head_any (a : Bool) (t : ByteArray) (x : List UInt8) (v u : Value) (N : Nat) (w : World) (l : List MV) (h : Blk w N 58 ((fresh a t x).gs v u)) (hv : FR w v []) (hu : MR w (N + 1) u l) (hbl : x.length ≤ 100000) :
    Calls Tryz.prog 46 #[.pointer (some ⟨N, 0, none⟩)] w fun en w' => en = .returned (.bool (partH (fresh a t x)).1) ∧ Red w' N (partH (fresh a t x)).2.1 l (partH (fresh a t x)).2.2 ∧ Below N w w' := by
  have hlt := h.lt
  have hty := h.ty
  have hle := lead_le a x
  have hpt := partH_three a t x
  have c0 : w.cell? ⟨N, 0, none⟩ = some (.bool a) := h.cell 0 _ rfl
  have c2 : w.cell? ⟨N, 2, none⟩ = some (.string (Ck.bs x)) := h.cell 2 _ rfl
  have hO := only_refl w N
  cases a
  · rw [show lead false x = x from rfl] at hpt hle
    go_enter Tryz.func46, Tryz.ntmps46
    go_upto_region 3 with fail
    have hw : w.heap.size ≤ w.heap.size := Nat.le_refl _
    clear c2
    have hend := fun W => Hd.end_any (Ck.bs x) W (by rw [Ck.bs_size]; omega)
    rw [Ck.bs_list] at hend
    have c2 : w.cell? ⟨N, 2, none⟩ = some (.string (Ck.bs x)) := h.cell 2 _ rfl
    rcases hpt with ⟨n, n1, n2, n3, n4, -, hP⟩ | ⟨n4, n2, hP⟩ | ⟨n4, -, hP⟩
    · have HPt := hide hP
      rw [n4] at hend
      have hpa : ∀ W, Blk W N 58 ((fresh false t x).gs v u) → Calls Tryz.prog 63 #[.pointer (some ⟨N, 0, none⟩), .string (Ck.bs (x.take n))] W fun en w' => HP w' false t (x.take n) en ∧ Below W.heap.size W w' := fun W hW => hp_any (fresh false t x) v u N (x.take n) W hW (by rw [List.length_take]; omega)
      unfold HP at hpa
      obtain ⟨H, hH⟩ : ∃ H, hhF false t (x.take n) = H := ⟨_, rfl⟩
      have HH := hide hH
      rw [hH] at hpa
      clear hH
      have hx := bs_take x n
      have hxd := bs_drop x n
      rw [Ck.bs_size] at hxd
      have hys := Ck.bs_size x
      have hnz : (n : Int) ≤ (x.length : Int) := by omega
      have HX := hide (And.intro h (And.intro hv (And.intro hu hO)))
      clear hP n4 h hv hu hO hty
      go_wp2_with fail
      refine (hend _).mono ?_
      rintro en w1 ⟨rfl, hb1⟩
      obtain ⟨h, hv, hu, hO⟩ := HX.out
      replace h := h.below hb1
      replace hv := hv.below hb1
      replace hu := hu.below hb1
      replace hO := only_below hO hb1
      have HX1 := hide (And.intro h (And.intro hv (And.intro hu hO)))
      have d2 : w1.cell? ⟨N, 2, none⟩ = some (.string (Ck.bs x)) := h.cell 2 _ rfl
      clear h hv hu hO HX hend
      go_wp2_with fail
      obtain ⟨h, hv, hu, hO⟩ := HX1.out
      refine (hpa _ h).mono ?_
      rintro en w2 ⟨⟨m, va, vn, vc, k, z, rfl, hE0⟩, hb2⟩
      replace h := h.below hb2
      replace hv := hv.below hb2
      replace hu := hu.below hb2
      replace hO := only_below hO hb2
      have HX2 := hide (And.intro h (And.intro hv (And.intro hu hO)))
      clear h hv hu hO HX1 d2 c2 hpa hx
      have HE0 := hide hE0
      clear hE0
      unfold Ms.v
      go_upto_region 9 with fail
      obtain ⟨h, hv, hu, hO⟩ := HX2.out
      have hM : Blk ((w2.alloc (.cells #[.string m.s.m, .string m.s.t, .int .i64 m.s.c, .string m.s.r, .int .i64 m.s.n, .slice va vn vc, .string (Ck.bs m.b)] 26)).alloc (.cells #[.int .i64 k, .int .i64 z] 28)) w2.heap.size 26 [.string m.s.m, .string m.s.t, .int .i64 m.s.c, .string m.s.r, .int .i64 m.s.n, .slice va vn vc, .string (Ck.bs m.b)] := (Blk.new w2 26 [.string m.s.m, .string m.s.t, .int .i64 m.s.c, .string m.s.r, .int .i64 m.s.n, .slice va vn vc, .string (Ck.bs m.b)]).alloc _
      have hK : Blk ((w2.alloc (.cells #[.string m.s.m, .string m.s.t, .int .i64 m.s.c, .string m.s.r, .int .i64 m.s.n, .slice va vn vc, .string (Ck.bs m.b)] 26)).alloc (.cells #[.int .i64 k, .int .i64 z] 28)) (w2.heap.size + 1) 28 [.int .i64 k, .int .i64 z] := by
        have := Blk.new (w2.alloc (.cells #[.string m.s.m, .string m.s.t, .int .i64 m.s.c, .string m.s.r, .int .i64 m.s.n, .slice va vn vc, .string (Ck.bs m.b)] 26)) 28 [.int .i64 k, .int .i64 z]
        rwa [show (w2.alloc (.cells #[.string m.s.m, .string m.s.t, .int .i64 m.s.c, .string m.s.r, .int .i64 m.s.n, .slice va vn vc, .string (Ck.bs m.b)] 26)).heap.size = w2.heap.size + 1 by simp] at this
      have hBA : Below w2.heap.size w2 ((w2.alloc (.cells #[.string m.s.m, .string m.s.t, .int .i64 m.s.c, .string m.s.r, .int .i64 m.s.n, .slice va vn vc, .string (Ck.bs m.b)] 26)).alloc (.cells #[.int .i64 k, .int .i64 z] 28)) := ((Below.refl _ w2).alloc (Nat.le_refl _) _).alloc (by simp) _
      have hNM : N < w2.heap.size := h.lt
      replace h := h.below hBA
      replace hv := hv.below hBA
      replace hu := hu.below hBA
      replace hO := only_below hO hBA
      have HE1 : Hid (H.e = 0 → m = ⟨H.s, H.L, []⟩ ∧ k = H.k ∧ z = H.z ∧ FR ((w2.alloc (.cells #[.string m.s.m, .string m.s.t, .int .i64 m.s.c, .string m.s.r, .int .i64 m.s.n, .slice va vn vc, .string (Ck.bs m.b)] 26)).alloc (.cells #[.int .i64 k, .int .i64 z] 28)) (.slice va vn vc) m.L) := fun e => ⟨(HE0.out e).1, (HE0.out e).2.1, (HE0.out e).2.2.1, (HE0.out e).2.2.2.below hBA⟩
      clear hBA HE0 HX2 hb2
      generalize World.alloc (World.alloc _ _) _ = W3 at h hv hu hO hM hK HE1 ⊢
      generalize w2.heap.size = M at hM hK hNM ⊢
      by_cases hE : H.e = 0
      · obtain ⟨rfl, rfl, rfl, hF⟩ := HE1.out hE
        have hEb : (H.e != 0) = false := by rw [hE]; rfl
        rw [hE]
        have hN1 := h.set 2 (show 2 < 19 by decide) (.string (Ck.bs (x.drop n)))
        have e1 : ((fresh false t x).gs v u).set 2 (.string (Ck.bs (x.drop n))) = (fresh false t (x.drop n)).gs v u := by kernel_rfl
        rw [e1] at hN1
        have hO1 := only_set (only_refl W3 N) 2 (.string (Ck.bs (x.drop n)))
        have d2 : W3.cell? ⟨N, 2, none⟩ = some (.string (Ck.bs x)) := h.cell 2 _ rfl
        have dz := h.fz
        replace hv := hv.keep (Kf.only hO1 (by rw [h.ty]; decide))
        replace hF := hF.keep (Kf.only hO1 (by rw [h.ty]; decide))
        replace hu := hu.only hO1 (by rw [h.ty]; decide) (by rw [h.ty]; decide)
        replace hO := only_trans hO hO1
        replace hM := hM.keep (hO1.block _ hM.lt (fun e => absurd (Option.some.inj e) (by omega)))
        replace hK := hK.keep (hO1.block _ hK.lt (fun e => absurd (Option.some.inj e) (by omega)))
        have HX3 := hide (And.intro hN1 (And.intro hv (And.intro hu (And.intro hO (And.intro hM (And.intro hK hF))))))
        clear hN1 hv hu hO hM hK hF h hO1 e1 HE1
        go_upto_region 12 with fail
        obtain ⟨h, hv, hu, hO, hM, hK, hF⟩ := HX3.out
        clear HX3 d2 dz
        generalize World.setCell _ _ _ = W4 at h hv hu hO hM hK hF ⊢
        have d0 : W4.cell? ⟨N, 0, none⟩ = some (.bool false) := h.cell 0 _ rfl
        have m2 : W4.cell? ⟨M, 2, none⟩ = some (.int .i64 H.s.c) := hM.cell 2 _ rfl
        by_cases hcd : 200 ≤ H.s.c
        · have hcb : decide (200 ≤ H.s.c) = true := decide_eq_true hcd
          have HQ : Hid (partH (fresh false t x) = (true, ⟨false, t, x.drop n, true, ⟨H.s, H.L, []⟩, H.k, H.z, Ck.k0, 0⟩, [])) := by unfold Hid; rw [HPt.out]; unfold partO; rw [HH.out, if_neg (not_not_intro hE), if_pos (Or.inr hcd)]
          have hM7 : Blk W4 M 26 [.string H.s.m, .string H.s.t, .int .i64 H.s.c, .string H.s.r, .int .i64 H.s.n, .slice va vn vc, .string ⟨#[]⟩] := hM
          have HX4 := hide (And.intro h (And.intro hu (And.intro hO (And.intro hM7 (And.intro hK hF)))))
          clear h hv hu hO hM hM7 hK hF
          go_wp2_with fail
          obtain ⟨h, hu, hO, hM, hK, hF⟩ := HX4.out
          clear HX4 d0 m2
          have hMl := hM.lt
          have hKl := hK.lt
          refine wp_region_held_drew (S := (fun w' => Blk w' M 26 [.string H.s.m, .string H.s.t, .int .i64 H.s.c, .string H.s.r, .int .i64 H.s.n, .slice va vn vc, .string ⟨#[]⟩] ∧ Blk w' (M + 1) 28 [.int .i64 H.k, .int .i64 H.z])) (by kernel_rfl) (⟨hM.drew, hK.drew⟩) (fun hHeld => ?_)
          refine wpAnyH_take (i := 0) (oi := _) (v := .pointer (some ⟨N, 0, none⟩)) rfl (by kernel_rfl) (by kernel_rfl) (by kernel_rfl) (fun _ _ _ h => h) (Or.inl ⟨by rfl, fun wS hSw => by go_simp⟩) (by first | trivial | assumption) ?_
          simp only [Act.put, List.getElem_toArray, List.getElem_cons_zero, List.getElem_cons_succ, List.setIfInBounds_toArray, List.set_cons_zero, List.set_cons_succ]
          refine wpAnyH_take (i := 1) (oi := _) (v := .pointer (some ⟨N, 0, none⟩)) rfl (by kernel_rfl) (by kernel_rfl) (by kernel_rfl) (fun _ _ _ h => h) (Or.inl ⟨by rfl, fun wS hSw => by go_simp⟩) (by first | trivial | assumption) ?_
          simp only [Act.put, List.getElem_toArray, List.getElem_cons_zero, List.getElem_cons_succ, List.setIfInBounds_toArray, List.set_cons_zero, List.set_cons_succ]
          refine wpAnyH_take (i := 2) (oi := _) (v := .pointer (some ⟨N, 0, none⟩)) rfl (by kernel_rfl) (by kernel_rfl) (by kernel_rfl) (fun _ _ _ h => h) (Or.inl ⟨by rfl, fun wS hSw => by go_simp⟩) (by first | trivial | assumption) ?_
          simp only [Act.put, List.getElem_toArray, List.getElem_cons_zero, List.getElem_cons_succ, List.setIfInBounds_toArray, List.set_cons_zero, List.set_cons_succ]
          refine wpAnyH_take (i := 3) (oi := _) (v := .agg #[.string H.s.m, .string H.s.t, .int .i64 H.s.c, .string H.s.r, .int .i64 H.s.n, .slice va vn vc, .string ⟨#[]⟩]) rfl (by kernel_rfl) (by kernel_rfl) (by kernel_rfl) (fun _ _ _ h => h) (yieldsIf_load_mid (by kernel_rfl) 26 (.tmp 5) rfl M 0 rfl _ _ (fun _ hS => Blk.range (hS.1) 0 7) Tryz.underlying26 rfl (by kernel_rfl)) (by first | trivial | assumption) ?_
          simp only [Act.put, List.getElem_toArray, List.getElem_cons_zero, List.getElem_cons_succ, List.setIfInBounds_toArray, List.set_cons_zero, List.set_cons_succ]
          refine wpAnyH_take (i := 4) (oi := _) (v := .agg #[.int .i64 H.k, .int .i64 H.z]) rfl (by kernel_rfl) (by kernel_rfl) (by kernel_rfl) (fun _ _ _ h => h) (yieldsIf_load_mid (by kernel_rfl) 28 (.tmp 6) rfl (M + 1) 0 rfl _ _ (fun _ hS => Blk.range (hS.2) 0 2) Tryz.underlying28 rfl (by kernel_rfl)) (by first | trivial | assumption) ?_
          simp only [Act.put, List.getElem_toArray, List.getElem_cons_zero, List.getElem_cons_succ, List.setIfInBounds_toArray, List.set_cons_zero, List.set_cons_succ]
          refine wpAnyH_take (i := 5) (oi := _) (v := .pointer (some ⟨N, 0, none⟩)) rfl (by kernel_rfl) (by kernel_rfl) (by kernel_rfl) (fun _ _ _ h => h) (Or.inl ⟨by rfl, fun wS hSw => by go_simp⟩) (by first | trivial | assumption) ?_
          simp only [Act.put, List.getElem_toArray, List.getElem_cons_zero, List.getElem_cons_succ, List.setIfInBounds_toArray, List.set_cons_zero, List.set_cons_succ]
          refine wpAnyH_take (i := 6) (oi := _) (v := .pointer (some ⟨N, 0, none⟩)) rfl (by kernel_rfl) (by kernel_rfl) (by kernel_rfl) (fun _ _ _ h => h) (Or.inl ⟨by rfl, fun wS hSw => by go_simp⟩) (by first | trivial | assumption) ?_
          simp only [Act.put, List.getElem_toArray, List.getElem_cons_zero, List.getElem_cons_succ, List.setIfInBounds_toArray, List.set_cons_zero, List.set_cons_succ]
          refine wpAnyH_take (i := 7) (oi := _) (v := .pointer (some ⟨N, 3, none⟩)) rfl (by kernel_rfl) (by kernel_rfl) (by kernel_rfl) (fun _ _ _ h => h) (Or.inl ⟨by rfl, fun wS hSw => by go_simp⟩) (by first | trivial | assumption) ?_
          simp only [Act.put, List.getElem_toArray, List.getElem_cons_zero, List.getElem_cons_succ, List.setIfInBounds_toArray, List.set_cons_zero, List.set_cons_succ]
          have d3 : W4.cell? ⟨N, 3, none⟩ = some (.bool false) := h.cell 3 _ rfl
          have dz := h.fz
          have hO1 := only_set (only_refl W4 N) 3 (.bool true)
          have hM1 := hM.keep (hO1.block _ hM.lt (fun e => absurd (Option.some.inj e) (by omega)))
          have hK1 := hK.keep (hO1.block _ hK.lt (fun e => absurd (Option.some.inj e) (by omega)))
          refine wpAnyH_ready (rs := [8]) (by kernel_rfl) (by simp) ?_
          refine AllReadyH.cons (o := _) rfl (fun K hK => ?_) AllReadyH.nil
          go_simp
          refine hK.out _ _ (⟨hM1.drew, hK1.drew⟩) (fun hHeld => ?_)
          clear hK K
          have hN1 := h.set 3 (show 3 < 19 by decide) (.bool true)
          replace hu := hu.only hO1 (by rw [h.ty]; decide) (by rw [h.ty]; decide)
          replace hF := hF.keep (Kf.only hO1 (by rw [h.ty]; decide))
          replace hO := only_trans hO hO1
          replace hM1 := hM1.drew
          replace hK1 := hK1.drew
          replace hN1 := hN1.drew
          replace hu := hu.below ((Below.refl _ _).drew)
          replace hF := hF.below ((Below.refl _ _).drew)
          replace hO := only_below hO ((Below.refl _ _).drew)
          clear d3 dz hO1 hM hK h
          generalize World.drew (World.setCell _ _ _) = W5 at hHeld hN1 hM1 hK1 hu hF hO ⊢
          refine wpAnyH_take (i := 9) (oi := _) (v := .pointer (some ⟨N, 0, none⟩)) rfl (by kernel_rfl) (by kernel_rfl) (by kernel_rfl) (fun _ _ _ h => h) (Or.inl ⟨by rfl, fun wS hSw => by go_simp⟩) (by first | trivial | assumption) ?_
          simp only [Act.put, List.getElem_toArray, List.getElem_cons_zero, List.getElem_cons_succ, List.setIfInBounds_toArray, List.set_cons_zero, List.set_cons_succ]
          refine wpAnyH_take (i := 10) (oi := _) (v := .pointer (some ⟨N, 0, none⟩)) rfl (by kernel_rfl) (by kernel_rfl) (by kernel_rfl) (fun _ _ _ h => h) (Or.inl ⟨by rfl, fun wS hSw => by go_simp⟩) (by first | trivial | assumption) ?_
          simp only [Act.put, List.getElem_toArray, List.getElem_cons_zero, List.getElem_cons_succ, List.setIfInBounds_toArray, List.set_cons_zero, List.set_cons_succ]
          refine wpAnyH_take (i := 11) (oi := _) (v := .pointer (some ⟨N, 4, none⟩)) rfl (by kernel_rfl) (by kernel_rfl) (by kernel_rfl) (fun _ _ _ h => h) (Or.inl ⟨by rfl, fun wS hSw => by go_simp⟩) (by first | trivial | assumption) ?_
          simp only [Act.put, List.getElem_toArray, List.getElem_cons_zero, List.getElem_cons_succ, List.setIfInBounds_toArray, List.set_cons_zero, List.set_cons_succ]
          have hO2 := only_sets [.string H.s.m, .string H.s.t, .int .i64 H.s.c, .string H.s.r, .int .i64 H.s.n, .slice va vn vc, .string ⟨#[]⟩] 4 (only_refl W5 N)
          have hM2 := hM1.keep (hO2.block _ hM1.lt (fun e => absurd (Option.some.inj e) (by omega)))
          have hK2 := hK1.keep (hO2.block _ hK1.lt (fun e => absurd (Option.some.inj e) (by omega)))
          have hN2 := hN1.sets [.string H.s.m, .string H.s.t, .int .i64 H.s.c, .string H.s.r, .int .i64 H.s.n, .slice va vn vc, .string ⟨#[]⟩] 4 (show 4 + 7 ≤ 19 by decide)
          replace hu := hu.only hO2 (by rw [hN1.ty]; decide) (by rw [hN1.ty]; decide)
          replace hF := hF.keep (Kf.only hO2 (by rw [hN1.ty]; decide))
          replace hO := only_trans hO hO2
          have hth := hN1.there 4 7 (show 4 + 7 ≤ 19 by decide)
          refine wpAnyH_ready (rs := [12]) (by kernel_rfl) (by simp) ?_
          refine AllReadyH.cons (o := _) rfl (fun K hK => ?_) AllReadyH.nil
          rw [if_pos (by kernel_rfl)]
          refine wp_store_mid 26 (.tmp 88) (.tmp 81) rfl _ _ _ rfl rfl (hth) (by kernel_rfl) (by simp [Value.oneCell']) ?_
          simp only [Act.put, List.getElem_toArray, List.getElem_cons_zero, List.getElem_cons_succ, List.setIfInBounds_toArray, List.set_cons_zero, List.set_cons_succ]
          refine hK.out _ _ (⟨hM2, hK2⟩) (fun hHeld => ?_)
          clear hK K
          clear hth hO2 hM1 hK1 hN1
          generalize World.setCells _ _ _ _ = W6 at hHeld hN2 hM2 hK2 hu hF hO ⊢
          refine wpAnyH_take (i := 13) (oi := _) (v := .pointer (some ⟨N, 0, none⟩)) rfl (by kernel_rfl) (by kernel_rfl) (by kernel_rfl) (fun _ _ _ h => h) (Or.inl ⟨by rfl, fun wS hSw => by go_simp⟩) (by first | trivial | assumption) ?_
          simp only [Act.put, List.getElem_toArray, List.getElem_cons_zero, List.getElem_cons_succ, List.setIfInBounds_toArray, List.set_cons_zero, List.set_cons_succ]
          refine wpAnyH_take (i := 14) (oi := _) (v := .pointer (some ⟨N, 0, none⟩)) rfl (by kernel_rfl) (by kernel_rfl) (by kernel_rfl) (fun _ _ _ h => h) (Or.inl ⟨by rfl, fun wS hSw => by go_simp⟩) (by first | trivial | assumption) ?_
          simp only [Act.put, List.getElem_toArray, List.getElem_cons_zero, List.getElem_cons_succ, List.setIfInBounds_toArray, List.set_cons_zero, List.set_cons_succ]
          refine wpAnyH_take (i := 15) (oi := _) (v := .pointer (some ⟨N, 11, none⟩)) rfl (by kernel_rfl) (by kernel_rfl) (by kernel_rfl) (fun _ _ _ h => h) (Or.inl ⟨by rfl, fun wS hSw => by go_simp⟩) (by first | trivial | assumption) ?_
          simp only [Act.put, List.getElem_toArray, List.getElem_cons_zero, List.getElem_cons_succ, List.setIfInBounds_toArray, List.set_cons_zero, List.set_cons_succ]
          have hO3 := only_sets [.int .i64 H.k, .int .i64 H.z] 11 (only_refl W6 N)
          have hM3 := hM2.keep (hO3.block _ hM2.lt (fun e => absurd (Option.some.inj e) (by omega)))
          have hK3 := hK2.keep (hO3.block _ hK2.lt (fun e => absurd (Option.some.inj e) (by omega)))
          have hN3 := hN2.sets [.int .i64 H.k, .int .i64 H.z] 11 (show 11 + 2 ≤ 19 by decide)
          replace hu := hu.only hO3 (by rw [hN2.ty]; decide) (by rw [hN2.ty]; decide)
          replace hF := hF.keep (Kf.only hO3 (by rw [hN2.ty]; decide))
          replace hO := only_trans hO hO3
          have hth := hN2.there 11 2 (show 11 + 2 ≤ 19 by decide)
          refine wpAnyH_ready (rs := [16]) (by kernel_rfl) (by simp) ?_
          refine AllReadyH.cons (o := _) rfl (fun K hK => ?_) AllReadyH.nil
          rw [if_pos (by kernel_rfl)]
          refine wp_store_mid 28 (.tmp 91) (.tmp 82) rfl _ _ _ rfl rfl (hth) (by kernel_rfl) (by simp [Value.oneCell']) ?_
          simp only [Act.put, List.getElem_toArray, List.getElem_cons_zero, List.getElem_cons_succ, List.setIfInBounds_toArray, List.set_cons_zero, List.set_cons_succ]
          refine hK.out _ _ (⟨hM3, hK3⟩) (fun hHeld => ?_)
          clear hK K
          clear hth hO3 hM2 hK2 hN2
          generalize World.setCells _ _ _ _ = W7 at hHeld hN3 hM3 hK3 hu hF hO ⊢
          refine wpAnyH_done (by kernel_rfl) ?_ _
          have e9 : sets (sets (((fresh false t (x.drop n)).gs v u).set 3 (.bool true)) 4 [.string H.s.m, .string H.s.t, .int .i64 H.s.c, .string H.s.r, .int .i64 H.s.n, .slice va vn vc, .string ⟨#[]⟩]) 11 [.int .i64 H.k, .int .i64 H.z] = Rr.gs ⟨false, t, x.drop n, true, ⟨H.s, H.L, []⟩, H.k, H.z, Ck.k0, 0⟩ (.slice va vn vc) u := by kernel_rfl
          rw [e9] at hN3
          have HX5 := hide (And.intro hN3 (And.intro hF (And.intro hu hO)))
          clear hN3 hF hu hO hM3 hK3 hHeld e9
          go_wp2_with fail
          go_ret
          rw [HQ.out]
          obtain ⟨hN3, hF, hu, hO⟩ := HX5.out
          exact ⟨rfl, ⟨_, u, l, hN3, hF, hu, by simp⟩, below_only hO (Nat.le_refl _) (Nat.le_of_lt hlt)⟩
        · have hcb : decide (200 ≤ H.s.c) = false := decide_eq_false hcd
          have HQ : Hid (partH (fresh false t x) = (true, fresh false t (x.drop n), [])) := by unfold Hid; rw [HPt.out]; unfold partO; rw [HH.out, if_neg (not_not_intro hE), if_neg (by rintro (e | e); exact absurd e (by decide); exact hcd e)]
          have HX4 := hide (And.intro h (And.intro hv (And.intro hu hO)))
          clear h hv hu hO hM hK hF
          go_wp2_with fail
          go_ret
          rw [HQ.out]
          obtain ⟨h, hv, hu, hO⟩ := HX4.out
          exact ⟨rfl, ⟨v, u, l, h, hv, hu, by simp⟩, below_only hO (Nat.le_refl _) (Nat.le_of_lt hlt)⟩
      · have hEb : (H.e != 0) = true := by simpa using hE
        have HQ : Hid (partH (fresh false t x) = (false, stopR false t H.e, [])) := by unfold Hid; rw [HPt.out]; unfold partO; rw [HH.out, if_pos hE]
        have HX3 := hide (And.intro h (And.intro hu hO))
        clear h hv hu hO hM hK HE1
        go_wp2_with fail
        obtain ⟨h, hu, hO⟩ := HX3.out
        refine (stop_any _ v u N H.e W3 h).mono ?_
        rintro en w4 ⟨rfl, hb4, ho4⟩
        go_wp2_with fail
        go_ret
        rw [HQ.out]
        exact ⟨rfl, red_stop hb4 (hu.only ho4 (by rw [h.ty]; decide) (by rw [h.ty]; decide)), below_only (only_trans hO ho4) (Nat.le_refl _) (Nat.le_of_lt hlt)⟩
    · have HPt := hide hP
      rw [n4] at hend
      have HX := hide (And.intro h (And.intro hv (And.intro hu hO)))
      clear hP n4 h hv hu hO hty
      go_wp2_with fail
      refine (hend _).mono ?_
      rintro en w1 ⟨rfl, hb1⟩
      go_wp2_with fail
      go_ret
      obtain ⟨h, hv, hu, hO⟩ := HX.out
      rw [HPt.out]
      exact ⟨rfl, ⟨v, u, l, h.below hb1, hv.below hb1, hu.below hb1, by simp⟩, below_only (only_below hO hb1) (Nat.le_refl _) (Nat.le_of_lt hlt)⟩
    · have HPt := hide hP
      rw [n4] at hend
      have HX := hide (And.intro h (And.intro hu hO))
      clear hP n4 h hv hu hO
      go_wp2_with fail
      refine (hend _).mono ?_
      rintro en w1 ⟨rfl, hb1⟩
      obtain ⟨h, hu, hO⟩ := HX.out
      go_wp2_with fail
      refine (stop_any _ v u N 2 w1 (h.below hb1)).mono ?_
      rintro en w2 ⟨rfl, hb2, ho2⟩
      go_wp2_with fail
      go_ret
      rw [HPt.out]
      exact ⟨rfl, red_stop hb2 ((hu.below hb1).only ho2 (by rw [(h.below hb1).ty]; decide) (by rw [(h.below hb1).ty]; decide)), below_only (only_trans (only_below hO hb1) ho2) (Nat.le_refl _) (Nat.le_of_lt hlt)⟩
  · have hsk := fun W => skip_any x W (by omega)
    rw [show skL x = lead true x from rfl] at hsk
    obtain ⟨y, hy⟩ : ∃ y, lead true x = y := ⟨_, rfl⟩
    rw [hy] at hpt hle hsk
    have HX := hide (And.intro h (And.intro hv hu))
    clear h hv hu hy hO
    go_enter Tryz.func46, Tryz.ntmps46
    go_wp2_with fail
    refine (hsk _).mono ?_
    rintro en W0 ⟨rfl, hb0⟩
    obtain ⟨h, hv, hu⟩ := HX.out
    replace h := h.below hb0
    replace hv := hv.below hb0
    replace hu := hu.below hb0
    have d2 : W0.cell? ⟨N, 2, none⟩ = some (.string (Ck.bs x)) := h.cell 2 _ rfl
    have dz := h.fz
    have hS := h.set 2 (show 2 < 19 by decide) (.string (Ck.bs y))
    have hO1 := only_set (only_refl W0 N) 2 (.string (Ck.bs y))
    replace hv := hv.keep (Kf.only hO1 (by rw [h.ty]; decide))
    replace hu := hu.only hO1 (by rw [h.ty]; decide) (by rw [h.ty]; decide)
    have hO := only_trans (only_below (only_refl w N) hb0) hO1
    have e0 : ((fresh true t x).gs v u).set 2 (.string (Ck.bs y)) = (fresh true t y).gs v u := by kernel_rfl
    rw [e0] at hS
    have HY := hide (And.intro hS (And.intro hv (And.intro hu hO)))
    clear h hv hu hS hO1 hO e0 c2 c0 HX hsk hb0
    go_upto_region 3 with fail
    obtain ⟨h, hv, hu, hO⟩ := HY.out
    clear HY d2 dz
    generalize World.setCell _ _ _ = W1 at h hv hu hO ⊢
    have c0 : W1.cell? ⟨N, 0, none⟩ = some (.bool true) := h.cell 0 _ rfl
    have hend := fun W => Hd.end_any (Ck.bs y) W (by rw [Ck.bs_size]; omega)
    rw [Ck.bs_list] at hend
    have c2 : W1.cell? ⟨N, 2, none⟩ = some (.string (Ck.bs y)) := h.cell 2 _ rfl
    rcases hpt with ⟨n, n1, n2, n3, n4, -, hP⟩ | ⟨n4, n2, hP⟩ | ⟨n4, -, hP⟩
    · have HPt := hide hP
      rw [n4] at hend
      have hpa : ∀ W, Blk W N 58 ((fresh true t y).gs v u) → Calls Tryz.prog 63 #[.pointer (some ⟨N, 0, none⟩), .string (Ck.bs (y.take n))] W fun en w' => HP w' true t (y.take n) en ∧ Below W.heap.size W w' := fun W hW => hp_any (fresh true t y) v u N (y.take n) W hW (by rw [List.length_take]; omega)
      unfold HP at hpa
      obtain ⟨H, hH⟩ : ∃ H, hhF true t (y.take n) = H := ⟨_, rfl⟩
      have HH := hide hH
      rw [hH] at hpa
      clear hH
      have hx := bs_take y n
      have hxd := bs_drop y n
      rw [Ck.bs_size] at hxd
      have hys := Ck.bs_size y
      have hnz : (n : Int) ≤ (y.length : Int) := by omega
      have HX := hide (And.intro h (And.intro hv (And.intro hu hO)))
      clear hP n4 h hv hu hO hty
      go_wp2_with fail
      refine (hend _).mono ?_
      rintro en w1 ⟨rfl, hb1⟩
      obtain ⟨h, hv, hu, hO⟩ := HX.out
      replace h := h.below hb1
      replace hv := hv.below hb1
      replace hu := hu.below hb1
      replace hO := only_below hO hb1
      have HX1 := hide (And.intro h (And.intro hv (And.intro hu hO)))
      have d2 : w1.cell? ⟨N, 2, none⟩ = some (.string (Ck.bs y)) := h.cell 2 _ rfl
      clear h hv hu hO HX hend
      go_wp2_with fail
      obtain ⟨h, hv, hu, hO⟩ := HX1.out
      refine (hpa _ h).mono ?_
      rintro en w2 ⟨⟨m, va, vn, vc, k, z, rfl, hE0⟩, hb2⟩
      replace h := h.below hb2
      replace hv := hv.below hb2
      replace hu := hu.below hb2
      replace hO := only_below hO hb2
      have HX2 := hide (And.intro h (And.intro hv (And.intro hu hO)))
      clear h hv hu hO HX1 d2 c2 hpa hx
      have HE0 := hide hE0
      clear hE0
      unfold Ms.v
      go_upto_region 9 with fail
      obtain ⟨h, hv, hu, hO⟩ := HX2.out
      have hM : Blk ((w2.alloc (.cells #[.string m.s.m, .string m.s.t, .int .i64 m.s.c, .string m.s.r, .int .i64 m.s.n, .slice va vn vc, .string (Ck.bs m.b)] 26)).alloc (.cells #[.int .i64 k, .int .i64 z] 28)) w2.heap.size 26 [.string m.s.m, .string m.s.t, .int .i64 m.s.c, .string m.s.r, .int .i64 m.s.n, .slice va vn vc, .string (Ck.bs m.b)] := (Blk.new w2 26 [.string m.s.m, .string m.s.t, .int .i64 m.s.c, .string m.s.r, .int .i64 m.s.n, .slice va vn vc, .string (Ck.bs m.b)]).alloc _
      have hK : Blk ((w2.alloc (.cells #[.string m.s.m, .string m.s.t, .int .i64 m.s.c, .string m.s.r, .int .i64 m.s.n, .slice va vn vc, .string (Ck.bs m.b)] 26)).alloc (.cells #[.int .i64 k, .int .i64 z] 28)) (w2.heap.size + 1) 28 [.int .i64 k, .int .i64 z] := by
        have := Blk.new (w2.alloc (.cells #[.string m.s.m, .string m.s.t, .int .i64 m.s.c, .string m.s.r, .int .i64 m.s.n, .slice va vn vc, .string (Ck.bs m.b)] 26)) 28 [.int .i64 k, .int .i64 z]
        rwa [show (w2.alloc (.cells #[.string m.s.m, .string m.s.t, .int .i64 m.s.c, .string m.s.r, .int .i64 m.s.n, .slice va vn vc, .string (Ck.bs m.b)] 26)).heap.size = w2.heap.size + 1 by simp] at this
      have hBA : Below w2.heap.size w2 ((w2.alloc (.cells #[.string m.s.m, .string m.s.t, .int .i64 m.s.c, .string m.s.r, .int .i64 m.s.n, .slice va vn vc, .string (Ck.bs m.b)] 26)).alloc (.cells #[.int .i64 k, .int .i64 z] 28)) := ((Below.refl _ w2).alloc (Nat.le_refl _) _).alloc (by simp) _
      have hNM : N < w2.heap.size := h.lt
      replace h := h.below hBA
      replace hv := hv.below hBA
      replace hu := hu.below hBA
      replace hO := only_below hO hBA
      have HE1 : Hid (H.e = 0 → m = ⟨H.s, H.L, []⟩ ∧ k = H.k ∧ z = H.z ∧ FR ((w2.alloc (.cells #[.string m.s.m, .string m.s.t, .int .i64 m.s.c, .string m.s.r, .int .i64 m.s.n, .slice va vn vc, .string (Ck.bs m.b)] 26)).alloc (.cells #[.int .i64 k, .int .i64 z] 28)) (.slice va vn vc) m.L) := fun e => ⟨(HE0.out e).1, (HE0.out e).2.1, (HE0.out e).2.2.1, (HE0.out e).2.2.2.below hBA⟩
      clear hBA HE0 HX2 hb2
      generalize World.alloc (World.alloc _ _) _ = W3 at h hv hu hO hM hK HE1 ⊢
      generalize w2.heap.size = M at hM hK hNM ⊢
      by_cases hE : H.e = 0
      · obtain ⟨rfl, rfl, rfl, hF⟩ := HE1.out hE
        have hEb : (H.e != 0) = false := by rw [hE]; rfl
        rw [hE]
        have hN1 := h.set 2 (show 2 < 19 by decide) (.string (Ck.bs (y.drop n)))
        have e1 : ((fresh true t y).gs v u).set 2 (.string (Ck.bs (y.drop n))) = (fresh true t (y.drop n)).gs v u := by kernel_rfl
        rw [e1] at hN1
        have hO1 := only_set (only_refl W3 N) 2 (.string (Ck.bs (y.drop n)))
        have d2 : W3.cell? ⟨N, 2, none⟩ = some (.string (Ck.bs y)) := h.cell 2 _ rfl
        have dz := h.fz
        replace hv := hv.keep (Kf.only hO1 (by rw [h.ty]; decide))
        replace hF := hF.keep (Kf.only hO1 (by rw [h.ty]; decide))
        replace hu := hu.only hO1 (by rw [h.ty]; decide) (by rw [h.ty]; decide)
        replace hO := only_trans hO hO1
        replace hM := hM.keep (hO1.block _ hM.lt (fun e => absurd (Option.some.inj e) (by omega)))
        replace hK := hK.keep (hO1.block _ hK.lt (fun e => absurd (Option.some.inj e) (by omega)))
        have HX3 := hide (And.intro hN1 (And.intro hv (And.intro hu (And.intro hO (And.intro hM (And.intro hK hF))))))
        clear hN1 hv hu hO hM hK hF h hO1 e1 HE1
        go_upto_region 12 with fail
        obtain ⟨h, hv, hu, hO, hM, hK, hF⟩ := HX3.out
        clear HX3 d2 dz
        generalize World.setCell _ _ _ = W4 at h hv hu hO hM hK hF ⊢
        have d0 : W4.cell? ⟨N, 0, none⟩ = some (.bool true) := h.cell 0 _ rfl
        have m2 : W4.cell? ⟨M, 2, none⟩ = some (.int .i64 H.s.c) := hM.cell 2 _ rfl
        have HQ : Hid (partH (fresh true t x) = (true, ⟨true, t, y.drop n, true, ⟨H.s, H.L, []⟩, H.k, H.z, Ck.k0, 0⟩, [])) := by unfold Hid; rw [HPt.out]; unfold partO; rw [HH.out, if_neg (not_not_intro hE), if_pos (Or.inl rfl)]
        have hM7 : Blk W4 M 26 [.string H.s.m, .string H.s.t, .int .i64 H.s.c, .string H.s.r, .int .i64 H.s.n, .slice va vn vc, .string ⟨#[]⟩] := hM
        have HX4 := hide (And.intro h (And.intro hu (And.intro hO (And.intro hM7 (And.intro hK hF)))))
        clear h hv hu hO hM hM7 hK hF
        go_wp2_with fail
        obtain ⟨h, hu, hO, hM, hK, hF⟩ := HX4.out
        clear HX4 d0 m2
        have hMl := hM.lt
        have hKl := hK.lt
        refine wp_region_held_drew (S := (fun w' => Blk w' M 26 [.string H.s.m, .string H.s.t, .int .i64 H.s.c, .string H.s.r, .int .i64 H.s.n, .slice va vn vc, .string ⟨#[]⟩] ∧ Blk w' (M + 1) 28 [.int .i64 H.k, .int .i64 H.z])) (by kernel_rfl) (⟨hM.drew, hK.drew⟩) (fun hHeld => ?_)
        refine wpAnyH_take (i := 0) (oi := _) (v := .pointer (some ⟨N, 0, none⟩)) rfl (by kernel_rfl) (by kernel_rfl) (by kernel_rfl) (fun _ _ _ h => h) (Or.inl ⟨by rfl, fun wS hSw => by go_simp⟩) (by first | trivial | assumption) ?_
        simp only [Act.put, List.getElem_toArray, List.getElem_cons_zero, List.getElem_cons_succ, List.setIfInBounds_toArray, List.set_cons_zero, List.set_cons_succ]
        refine wpAnyH_take (i := 1) (oi := _) (v := .pointer (some ⟨N, 0, none⟩)) rfl (by kernel_rfl) (by kernel_rfl) (by kernel_rfl) (fun _ _ _ h => h) (Or.inl ⟨by rfl, fun wS hSw => by go_simp⟩) (by first | trivial | assumption) ?_
        simp only [Act.put, List.getElem_toArray, List.getElem_cons_zero, List.getElem_cons_succ, List.setIfInBounds_toArray, List.set_cons_zero, List.set_cons_succ]
        refine wpAnyH_take (i := 2) (oi := _) (v := .pointer (some ⟨N, 0, none⟩)) rfl (by kernel_rfl) (by kernel_rfl) (by kernel_rfl) (fun _ _ _ h => h) (Or.inl ⟨by rfl, fun wS hSw => by go_simp⟩) (by first | trivial | assumption) ?_
        simp only [Act.put, List.getElem_toArray, List.getElem_cons_zero, List.getElem_cons_succ, List.setIfInBounds_toArray, List.set_cons_zero, List.set_cons_succ]
        refine wpAnyH_take (i := 3) (oi := _) (v := .agg #[.string H.s.m, .string H.s.t, .int .i64 H.s.c, .string H.s.r, .int .i64 H.s.n, .slice va vn vc, .string ⟨#[]⟩]) rfl (by kernel_rfl) (by kernel_rfl) (by kernel_rfl) (fun _ _ _ h => h) (yieldsIf_load_mid (by kernel_rfl) 26 (.tmp 5) rfl M 0 rfl _ _ (fun _ hS => Blk.range (hS.1) 0 7) Tryz.underlying26 rfl (by kernel_rfl)) (by first | trivial | assumption) ?_
        simp only [Act.put, List.getElem_toArray, List.getElem_cons_zero, List.getElem_cons_succ, List.setIfInBounds_toArray, List.set_cons_zero, List.set_cons_succ]
        refine wpAnyH_take (i := 4) (oi := _) (v := .agg #[.int .i64 H.k, .int .i64 H.z]) rfl (by kernel_rfl) (by kernel_rfl) (by kernel_rfl) (fun _ _ _ h => h) (yieldsIf_load_mid (by kernel_rfl) 28 (.tmp 6) rfl (M + 1) 0 rfl _ _ (fun _ hS => Blk.range (hS.2) 0 2) Tryz.underlying28 rfl (by kernel_rfl)) (by first | trivial | assumption) ?_
        simp only [Act.put, List.getElem_toArray, List.getElem_cons_zero, List.getElem_cons_succ, List.setIfInBounds_toArray, List.set_cons_zero, List.set_cons_succ]
        refine wpAnyH_take (i := 5) (oi := _) (v := .pointer (some ⟨N, 0, none⟩)) rfl (by kernel_rfl) (by kernel_rfl) (by kernel_rfl) (fun _ _ _ h => h) (Or.inl ⟨by rfl, fun wS hSw => by go_simp⟩) (by first | trivial | assumption) ?_
        simp only [Act.put, List.getElem_toArray, List.getElem_cons_zero, List.getElem_cons_succ, List.setIfInBounds_toArray, List.set_cons_zero, List.set_cons_succ]
        refine wpAnyH_take (i := 6) (oi := _) (v := .pointer (some ⟨N, 0, none⟩)) rfl (by kernel_rfl) (by kernel_rfl) (by kernel_rfl) (fun _ _ _ h => h) (Or.inl ⟨by rfl, fun wS hSw => by go_simp⟩) (by first | trivial | assumption) ?_
        simp only [Act.put, List.getElem_toArray, List.getElem_cons_zero, List.getElem_cons_succ, List.setIfInBounds_toArray, List.set_cons_zero, List.set_cons_succ]
        refine wpAnyH_take (i := 7) (oi := _) (v := .pointer (some ⟨N, 3, none⟩)) rfl (by kernel_rfl) (by kernel_rfl) (by kernel_rfl) (fun _ _ _ h => h) (Or.inl ⟨by rfl, fun wS hSw => by go_simp⟩) (by first | trivial | assumption) ?_
        simp only [Act.put, List.getElem_toArray, List.getElem_cons_zero, List.getElem_cons_succ, List.setIfInBounds_toArray, List.set_cons_zero, List.set_cons_succ]
        have d3 : W4.cell? ⟨N, 3, none⟩ = some (.bool false) := h.cell 3 _ rfl
        have dz := h.fz
        have hO1 := only_set (only_refl W4 N) 3 (.bool true)
        have hM1 := hM.keep (hO1.block _ hM.lt (fun e => absurd (Option.some.inj e) (by omega)))
        have hK1 := hK.keep (hO1.block _ hK.lt (fun e => absurd (Option.some.inj e) (by omega)))
        refine wpAnyH_ready (rs := [8]) (by kernel_rfl) (by simp) ?_
        refine AllReadyH.cons (o := _) rfl (fun K hK => ?_) AllReadyH.nil
        go_simp
        refine hK.out _ _ (⟨hM1.drew, hK1.drew⟩) (fun hHeld => ?_)
        clear hK K
        have hN1 := h.set 3 (show 3 < 19 by decide) (.bool true)
        replace hu := hu.only hO1 (by rw [h.ty]; decide) (by rw [h.ty]; decide)
        replace hF := hF.keep (Kf.only hO1 (by rw [h.ty]; decide))
        replace hO := only_trans hO hO1
        replace hM1 := hM1.drew
        replace hK1 := hK1.drew
        replace hN1 := hN1.drew
        replace hu := hu.below ((Below.refl _ _).drew)
        replace hF := hF.below ((Below.refl _ _).drew)
        replace hO := only_below hO ((Below.refl _ _).drew)
        clear d3 dz hO1 hM hK h
        generalize World.drew (World.setCell _ _ _) = W5 at hHeld hN1 hM1 hK1 hu hF hO ⊢
        refine wpAnyH_take (i := 9) (oi := _) (v := .pointer (some ⟨N, 0, none⟩)) rfl (by kernel_rfl) (by kernel_rfl) (by kernel_rfl) (fun _ _ _ h => h) (Or.inl ⟨by rfl, fun wS hSw => by go_simp⟩) (by first | trivial | assumption) ?_
        simp only [Act.put, List.getElem_toArray, List.getElem_cons_zero, List.getElem_cons_succ, List.setIfInBounds_toArray, List.set_cons_zero, List.set_cons_succ]
        refine wpAnyH_take (i := 10) (oi := _) (v := .pointer (some ⟨N, 0, none⟩)) rfl (by kernel_rfl) (by kernel_rfl) (by kernel_rfl) (fun _ _ _ h => h) (Or.inl ⟨by rfl, fun wS hSw => by go_simp⟩) (by first | trivial | assumption) ?_
        simp only [Act.put, List.getElem_toArray, List.getElem_cons_zero, List.getElem_cons_succ, List.setIfInBounds_toArray, List.set_cons_zero, List.set_cons_succ]
        refine wpAnyH_take (i := 11) (oi := _) (v := .pointer (some ⟨N, 4, none⟩)) rfl (by kernel_rfl) (by kernel_rfl) (by kernel_rfl) (fun _ _ _ h => h) (Or.inl ⟨by rfl, fun wS hSw => by go_simp⟩) (by first | trivial | assumption) ?_
        simp only [Act.put, List.getElem_toArray, List.getElem_cons_zero, List.getElem_cons_succ, List.setIfInBounds_toArray, List.set_cons_zero, List.set_cons_succ]
        have hO2 := only_sets [.string H.s.m, .string H.s.t, .int .i64 H.s.c, .string H.s.r, .int .i64 H.s.n, .slice va vn vc, .string ⟨#[]⟩] 4 (only_refl W5 N)
        have hM2 := hM1.keep (hO2.block _ hM1.lt (fun e => absurd (Option.some.inj e) (by omega)))
        have hK2 := hK1.keep (hO2.block _ hK1.lt (fun e => absurd (Option.some.inj e) (by omega)))
        have hN2 := hN1.sets [.string H.s.m, .string H.s.t, .int .i64 H.s.c, .string H.s.r, .int .i64 H.s.n, .slice va vn vc, .string ⟨#[]⟩] 4 (show 4 + 7 ≤ 19 by decide)
        replace hu := hu.only hO2 (by rw [hN1.ty]; decide) (by rw [hN1.ty]; decide)
        replace hF := hF.keep (Kf.only hO2 (by rw [hN1.ty]; decide))
        replace hO := only_trans hO hO2
        have hth := hN1.there 4 7 (show 4 + 7 ≤ 19 by decide)
        refine wpAnyH_ready (rs := [12]) (by kernel_rfl) (by simp) ?_
        refine AllReadyH.cons (o := _) rfl (fun K hK => ?_) AllReadyH.nil
        rw [if_pos (by kernel_rfl)]
        refine wp_store_mid 26 (.tmp 88) (.tmp 81) rfl _ _ _ rfl rfl (hth) (by kernel_rfl) (by simp [Value.oneCell']) ?_
        simp only [Act.put, List.getElem_toArray, List.getElem_cons_zero, List.getElem_cons_succ, List.setIfInBounds_toArray, List.set_cons_zero, List.set_cons_succ]
        refine hK.out _ _ (⟨hM2, hK2⟩) (fun hHeld => ?_)
        clear hK K
        clear hth hO2 hM1 hK1 hN1
        generalize World.setCells _ _ _ _ = W6 at hHeld hN2 hM2 hK2 hu hF hO ⊢
        refine wpAnyH_take (i := 13) (oi := _) (v := .pointer (some ⟨N, 0, none⟩)) rfl (by kernel_rfl) (by kernel_rfl) (by kernel_rfl) (fun _ _ _ h => h) (Or.inl ⟨by rfl, fun wS hSw => by go_simp⟩) (by first | trivial | assumption) ?_
        simp only [Act.put, List.getElem_toArray, List.getElem_cons_zero, List.getElem_cons_succ, List.setIfInBounds_toArray, List.set_cons_zero, List.set_cons_succ]
        refine wpAnyH_take (i := 14) (oi := _) (v := .pointer (some ⟨N, 0, none⟩)) rfl (by kernel_rfl) (by kernel_rfl) (by kernel_rfl) (fun _ _ _ h => h) (Or.inl ⟨by rfl, fun wS hSw => by go_simp⟩) (by first | trivial | assumption) ?_
        simp only [Act.put, List.getElem_toArray, List.getElem_cons_zero, List.getElem_cons_succ, List.setIfInBounds_toArray, List.set_cons_zero, List.set_cons_succ]
        refine wpAnyH_take (i := 15) (oi := _) (v := .pointer (some ⟨N, 11, none⟩)) rfl (by kernel_rfl) (by kernel_rfl) (by kernel_rfl) (fun _ _ _ h => h) (Or.inl ⟨by rfl, fun wS hSw => by go_simp⟩) (by first | trivial | assumption) ?_
        simp only [Act.put, List.getElem_toArray, List.getElem_cons_zero, List.getElem_cons_succ, List.setIfInBounds_toArray, List.set_cons_zero, List.set_cons_succ]
        have hO3 := only_sets [.int .i64 H.k, .int .i64 H.z] 11 (only_refl W6 N)
        have hM3 := hM2.keep (hO3.block _ hM2.lt (fun e => absurd (Option.some.inj e) (by omega)))
        have hK3 := hK2.keep (hO3.block _ hK2.lt (fun e => absurd (Option.some.inj e) (by omega)))
        have hN3 := hN2.sets [.int .i64 H.k, .int .i64 H.z] 11 (show 11 + 2 ≤ 19 by decide)
        replace hu := hu.only hO3 (by rw [hN2.ty]; decide) (by rw [hN2.ty]; decide)
        replace hF := hF.keep (Kf.only hO3 (by rw [hN2.ty]; decide))
        replace hO := only_trans hO hO3
        have hth := hN2.there 11 2 (show 11 + 2 ≤ 19 by decide)
        refine wpAnyH_ready (rs := [16]) (by kernel_rfl) (by simp) ?_
        refine AllReadyH.cons (o := _) rfl (fun K hK => ?_) AllReadyH.nil
        rw [if_pos (by kernel_rfl)]
        refine wp_store_mid 28 (.tmp 91) (.tmp 82) rfl _ _ _ rfl rfl (hth) (by kernel_rfl) (by simp [Value.oneCell']) ?_
        simp only [Act.put, List.getElem_toArray, List.getElem_cons_zero, List.getElem_cons_succ, List.setIfInBounds_toArray, List.set_cons_zero, List.set_cons_succ]
        refine hK.out _ _ (⟨hM3, hK3⟩) (fun hHeld => ?_)
        clear hK K
        clear hth hO3 hM2 hK2 hN2
        generalize World.setCells _ _ _ _ = W7 at hHeld hN3 hM3 hK3 hu hF hO ⊢
        refine wpAnyH_done (by kernel_rfl) ?_ _
        have e9 : sets (sets (((fresh true t (y.drop n)).gs v u).set 3 (.bool true)) 4 [.string H.s.m, .string H.s.t, .int .i64 H.s.c, .string H.s.r, .int .i64 H.s.n, .slice va vn vc, .string ⟨#[]⟩]) 11 [.int .i64 H.k, .int .i64 H.z] = Rr.gs ⟨true, t, y.drop n, true, ⟨H.s, H.L, []⟩, H.k, H.z, Ck.k0, 0⟩ (.slice va vn vc) u := by kernel_rfl
        rw [e9] at hN3
        have HX5 := hide (And.intro hN3 (And.intro hF (And.intro hu hO)))
        clear hN3 hF hu hO hM3 hK3 hHeld e9
        go_wp2_with fail
        go_ret
        rw [HQ.out]
        obtain ⟨hN3, hF, hu, hO⟩ := HX5.out
        exact ⟨rfl, ⟨_, u, l, hN3, hF, hu, by simp⟩, below_only hO (Nat.le_refl _) (Nat.le_of_lt hlt)⟩
      · have hEb : (H.e != 0) = true := by simpa using hE
        have HQ : Hid (partH (fresh true t x) = (false, stopR true t H.e, [])) := by unfold Hid; rw [HPt.out]; unfold partO; rw [HH.out, if_pos hE]
        have HX3 := hide (And.intro h (And.intro hu hO))
        clear h hv hu hO hM hK HE1
        go_wp2_with fail
        obtain ⟨h, hu, hO⟩ := HX3.out
        refine (stop_any _ v u N H.e W3 h).mono ?_
        rintro en w4 ⟨rfl, hb4, ho4⟩
        go_wp2_with fail
        go_ret
        rw [HQ.out]
        exact ⟨rfl, red_stop hb4 (hu.only ho4 (by rw [h.ty]; decide) (by rw [h.ty]; decide)), below_only (only_trans hO ho4) (Nat.le_refl _) (Nat.le_of_lt hlt)⟩
    · have HPt := hide hP
      rw [n4] at hend
      have HX := hide (And.intro h (And.intro hv (And.intro hu hO)))
      clear hP n4 h hv hu hO hty
      go_wp2_with fail
      refine (hend _).mono ?_
      rintro en w1 ⟨rfl, hb1⟩
      go_wp2_with fail
      go_ret
      obtain ⟨h, hv, hu, hO⟩ := HX.out
      rw [HPt.out]
      exact ⟨rfl, ⟨v, u, l, h.below hb1, hv.below hb1, hu.below hb1, by simp⟩, below_only (only_below hO hb1) (Nat.le_refl _) (Nat.le_of_lt hlt)⟩
    · have HPt := hide hP
      rw [n4] at hend
      have HX := hide (And.intro h (And.intro hu hO))
      clear hP n4 h hv hu hO
      go_wp2_with fail
      refine (hend _).mono ?_
      rintro en w1 ⟨rfl, hb1⟩
      obtain ⟨h, hu, hO⟩ := HX.out
      go_wp2_with fail
      refine (stop_any _ v u N 2 w1 (h.below hb1)).mono ?_
      rintro en w2 ⟨rfl, hb2, ho2⟩
      go_wp2_with fail
      go_ret
      rw [HPt.out]
      exact ⟨rfl, red_stop hb2 ((hu.below hb1).only ho2 (by rw [(h.below hb1).ty]; decide) (by rw [(h.below hb1).ty]; decide)), below_only (only_trans (only_below hO hb1) ho2) (Nat.le_refl _) (Nat.le_of_lt hlt)⟩

end Go.Proofs.YtmpijlaidnhpnaaGreat
