/- The walk of what takes a body in chunks. -/
import Derived.Test.YtmpijlaidnhpnaaGreatJXb
namespace Go.Proofs.YtmpijlaidnhpnaaGreat
set_option linter.unusedVariables false
set_option linter.unusedSimpArgs false
set_option maxRecDepth 100000
open Go.RowKit Ck

theorem fd_run {c : Ck.K} (h : Ck.Good c) (l : List UInt8) : Ck.fd c l = Ck.run c l := by unfold Ck.fd; rw [if_pos ((Ck.rt_good c).2 h)]
theorem run_sizes {c : Ck.K} {l : List UInt8} (h : Ck.Good c) (he : (Ck.run c l).e = 0) : ∃ n : Nat, (Ck.run c l).r = l.drop n ∧ n ≤ l.length ∧ ((l.length : Int) - ((Ck.run c l).r.length : Int)) = n ∧ (Ck.run c l).d.length ≤ 20000 := by
  obtain ⟨x, e1, -⟩ := Ck.run_part l c he
  have e2 := congrArg List.length e1
  rw [List.length_append] at e2
  refine ⟨x.length, ?_, by omega, by omega, ?_⟩
  · conv => rhs; rw [e1]
    rw [List.drop_left]
  · have h1 := run_size l c h he
    have h2 := (Ck.good_run l c h he).z1
    have h3 := h.z0
    omega

set_option maxHeartbeats 8000000 in
theorem chunks_bad (r : Rr) (v u : Value) (N : Nat) (w : World) (h : Blk w N 58 (r.gs v u)) (hg : Ck.Good r.c) (hbl : r.buf.length ≤ 1000000) (he : (Ck.run r.c r.buf).e ≠ 0) :
    Calls Tryz.prog 75 #[.pointer (some ⟨N, 0, none⟩)] w fun en w' => en = .returned (.tuple #[.bool false, .int .i64 ((Ck.run r.c r.buf).e : Nat)]) ∧ Below w.heap.size w w' := by
  have hbad : Ck.fd r.c r.buf = Ck.bad (Ck.run r.c r.buf).e := by rw [fd_run hg]; exact Ck.run_bad _ _ he
  have hv := Ck.fdV_bad he hbad
  have hfd := fun W => Ck.feed_any r.c (Ck.bs r.buf) W (Nat.le_trans hg.ln (by omega)) (by rw [Ck.bs_size]; exact hbl)
  rw [Ck.bs_list, hv] at hfd
  obtain ⟨E, hE⟩ : ∃ E, (Ck.run r.c r.buf).e = E := ⟨_, rfl⟩
  rw [hE] at hfd he ⊢
  have hEz : ((E : Nat) : Int) ≠ 0 := by omega
  have hEb : (((E : Nat) : Int) != 0) = true := by simpa using he
  clear hbad hv hE hg he
  obtain ⟨a, t, buf, i, ⟨⟨sm, st, sc, sr, sn⟩, L, b⟩, k, z, ⟨cst, cln, clf, csz⟩, e⟩ := r
  unfold Ck.K.v at hfd
  simp only at hfd hbl ⊢
  go_enter Tryz.func75, Tryz.ntmps75
  go_wp2_with fail
  refine wp_region_held_drew (S := (fun w' => Blk w' N 58 (Rr.gs ⟨a, t, buf, i, ⟨⟨sm, st, sc, sr, sn⟩, L, b⟩, k, z, ⟨cst, cln, clf, csz⟩, e⟩ v u))) (by kernel_rfl) (h.drew) (fun hHeld => ?_)
  refine wpAnyH_take (i := 0) (oi := _) (v := .pointer (some ⟨N, 0, none⟩)) rfl (by kernel_rfl) (by kernel_rfl) (by kernel_rfl) (fun _ _ _ h => h) (Or.inl ⟨by rfl, fun wS hSw => by go_simp⟩) (by first | trivial | assumption) ?_
  simp only [Act.put, List.getElem_toArray, List.getElem_cons_zero, List.getElem_cons_succ, List.setIfInBounds_toArray, List.set_cons_zero, List.set_cons_succ]
  refine wpAnyH_take (i := 1) (oi := _) (v := .pointer (some ⟨N, 0, none⟩)) rfl (by kernel_rfl) (by kernel_rfl) (by kernel_rfl) (fun _ _ _ h => h) (Or.inl ⟨by rfl, fun wS hSw => by go_simp⟩) (by first | trivial | assumption) ?_
  simp only [Act.put, List.getElem_toArray, List.getElem_cons_zero, List.getElem_cons_succ, List.setIfInBounds_toArray, List.set_cons_zero, List.set_cons_succ]
  refine wpAnyH_take (i := 2) (oi := _) (v := .pointer (some ⟨N, 0, none⟩)) rfl (by kernel_rfl) (by kernel_rfl) (by kernel_rfl) (fun _ _ _ h => h) (Or.inl ⟨by rfl, fun wS hSw => by go_simp⟩) (by first | trivial | assumption) ?_
  simp only [Act.put, List.getElem_toArray, List.getElem_cons_zero, List.getElem_cons_succ, List.setIfInBounds_toArray, List.set_cons_zero, List.set_cons_succ]
  refine wpAnyH_take (i := 3) (oi := _) (v := .pointer (some ⟨N, 13, none⟩)) rfl (by kernel_rfl) (by kernel_rfl) (by kernel_rfl) (fun _ _ _ h => h) (Or.inl ⟨by rfl, fun wS hSw => by go_simp⟩) (by first | trivial | assumption) ?_
  simp only [Act.put, List.getElem_toArray, List.getElem_cons_zero, List.getElem_cons_succ, List.setIfInBounds_toArray, List.set_cons_zero, List.set_cons_succ]
  refine wpAnyH_take (i := 4) (oi := _) (v := .agg #[.int .i64 cst, .string cln, .int .i64 clf, .int .i64 csz]) rfl (by kernel_rfl) (by kernel_rfl) (by kernel_rfl) (fun _ _ _ h => h) (Or.inl ⟨by kernel_rfl, fun wS hSw => by have l13 : World.cell? wS ⟨N, 13, none⟩ = some (.int .i64 cst) := hSw.cell 13 _ rfl; have l14 : World.cell? wS ⟨N, 14, none⟩ = some (.string cln) := hSw.cell 14 _ rfl; have l15 : World.cell? wS ⟨N, 15, none⟩ = some (.int .i64 clf) := hSw.cell 15 _ rfl; have l16 : World.cell? wS ⟨N, 16, none⟩ = some (.int .i64 csz) := hSw.cell 16 _ rfl; go_simp⟩) (by first | trivial | assumption) ?_
  simp only [Act.put, List.getElem_toArray, List.getElem_cons_zero, List.getElem_cons_succ, List.setIfInBounds_toArray, List.set_cons_zero, List.set_cons_succ]
  refine wpAnyH_take (i := 5) (oi := _) (v := .pointer (some ⟨N, 0, none⟩)) rfl (by kernel_rfl) (by kernel_rfl) (by kernel_rfl) (fun _ _ _ h => h) (Or.inl ⟨by rfl, fun wS hSw => by go_simp⟩) (by first | trivial | assumption) ?_
  simp only [Act.put, List.getElem_toArray, List.getElem_cons_zero, List.getElem_cons_succ, List.setIfInBounds_toArray, List.set_cons_zero, List.set_cons_succ]
  refine wpAnyH_take (i := 6) (oi := _) (v := .pointer (some ⟨N, 0, none⟩)) rfl (by kernel_rfl) (by kernel_rfl) (by kernel_rfl) (fun _ _ _ h => h) (Or.inl ⟨by rfl, fun wS hSw => by go_simp⟩) (by first | trivial | assumption) ?_
  simp only [Act.put, List.getElem_toArray, List.getElem_cons_zero, List.getElem_cons_succ, List.setIfInBounds_toArray, List.set_cons_zero, List.set_cons_succ]
  refine wpAnyH_take (i := 7) (oi := _) (v := .pointer (some ⟨N, 0, none⟩)) rfl (by kernel_rfl) (by kernel_rfl) (by kernel_rfl) (fun _ _ _ h => h) (Or.inl ⟨by rfl, fun wS hSw => by go_simp⟩) (by first | trivial | assumption) ?_
  simp only [Act.put, List.getElem_toArray, List.getElem_cons_zero, List.getElem_cons_succ, List.setIfInBounds_toArray, List.set_cons_zero, List.set_cons_succ]
  refine wpAnyH_take (i := 8) (oi := _) (v := .pointer (some ⟨N, 2, none⟩)) rfl (by kernel_rfl) (by kernel_rfl) (by kernel_rfl) (fun _ _ _ h => h) (Or.inl ⟨by rfl, fun wS hSw => by go_simp⟩) (by first | trivial | assumption) ?_
  simp only [Act.put, List.getElem_toArray, List.getElem_cons_zero, List.getElem_cons_succ, List.setIfInBounds_toArray, List.set_cons_zero, List.set_cons_succ]
  refine wpAnyH_take (i := 9) (oi := _) (v := .string (Ck.bs buf)) rfl (by kernel_rfl) (by kernel_rfl) (by kernel_rfl) (fun _ _ _ h => h) (Or.inl ⟨by kernel_rfl, fun wS hSw => by have l2 : World.cell? wS ⟨N, 2, none⟩ = some (.string (Ck.bs buf)) := hSw.cell 2 _ rfl; go_simp⟩) (by first | trivial | assumption) ?_
  simp only [Act.put, List.getElem_toArray, List.getElem_cons_zero, List.getElem_cons_succ, List.setIfInBounds_toArray, List.set_cons_zero, List.set_cons_succ]
  refine wpAnyH_ready (rs := [10, 16]) (by kernel_rfl) (by simp) ?_
  refine AllReadyH.cons (o := _) rfl (fun K hK => ?_) (AllReadyH.cons (o := _) rfl (fun K hK => ?_) AllReadyH.nil)
  · go_simp
    refine (hfd _).mono ?_
    rintro en w1 ⟨rfl, hb1⟩
    have h1 := h.drew.below hb1
    have B1 : Below w.heap.size w w1 := (Below.refl _ w).drew.trans hb1
    refine hK.out _ _ (h1) (fun hHeld => ?_)
    clear hK K
    clear hb1
    refine wpAnyH_take (i := 11) (oi := _) (v := .tuple #[.agg #[.int .i64 0, .string ⟨#[]⟩, .int .i64 0, .int .i64 0], .string ⟨#[]⟩, .int .i64 0, .int .i64 (E : Nat)]) rfl (by kernel_rfl) (by kernel_rfl) (by kernel_rfl) (fun _ _ _ h => h) (Or.inl ⟨by rfl, fun wS hSw => by go_simp⟩) (by first | trivial | assumption) ?_
    simp only [Act.put, List.getElem_toArray, List.getElem_cons_zero, List.getElem_cons_succ, List.setIfInBounds_toArray, List.set_cons_zero, List.set_cons_succ]
    refine wpAnyH_take (i := 12) (oi := _) (v := .agg #[.int .i64 0, .string ⟨#[]⟩, .int .i64 0, .int .i64 0]) rfl (by kernel_rfl) (by kernel_rfl) (by kernel_rfl) (fun _ _ _ h => h) (Or.inl ⟨by rfl, fun wS hSw => by go_simp⟩) (by first | trivial | assumption) ?_
    simp only [Act.put, List.getElem_toArray, List.getElem_cons_zero, List.getElem_cons_succ, List.setIfInBounds_toArray, List.set_cons_zero, List.set_cons_succ]
    refine wpAnyH_take (i := 13) (oi := _) (v := .string ⟨#[]⟩) rfl (by kernel_rfl) (by kernel_rfl) (by kernel_rfl) (fun _ _ _ h => h) (Or.inl ⟨by rfl, fun wS hSw => by go_simp⟩) (by first | trivial | assumption) ?_
    simp only [Act.put, List.getElem_toArray, List.getElem_cons_zero, List.getElem_cons_succ, List.setIfInBounds_toArray, List.set_cons_zero, List.set_cons_succ]
    refine wpAnyH_take (i := 14) (oi := _) (v := .int .i64 0) rfl (by kernel_rfl) (by kernel_rfl) (by kernel_rfl) (fun _ _ _ h => h) (Or.inl ⟨by rfl, fun wS hSw => by go_simp⟩) (by first | trivial | assumption) ?_
    simp only [Act.put, List.getElem_toArray, List.getElem_cons_zero, List.getElem_cons_succ, List.setIfInBounds_toArray, List.set_cons_zero, List.set_cons_succ]
    refine wpAnyH_take (i := 15) (oi := _) (v := .int .i64 (E : Nat)) rfl (by kernel_rfl) (by kernel_rfl) (by kernel_rfl) (fun _ _ _ h => h) (Or.inl ⟨by rfl, fun wS hSw => by go_simp⟩) (by first | trivial | assumption) ?_
    simp only [Act.put, List.getElem_toArray, List.getElem_cons_zero, List.getElem_cons_succ, List.setIfInBounds_toArray, List.set_cons_zero, List.set_cons_succ]
    refine wpAnyH_ready (rs := [16]) (by kernel_rfl) (by simp) ?_
    refine AllReadyH.cons (o := _) rfl (fun K hK => ?_) AllReadyH.nil
    go_simp
    refine hK.out _ _ (h1.alloc _) (fun hHeld => ?_)
    clear hK K
    refine wpAnyH_ready (rs := [17]) (by kernel_rfl) (by simp) ?_
    refine AllReadyH.cons (o := _) rfl (fun K hK => ?_) AllReadyH.nil
    go_simp
    refine hK.out _ _ (h1.alloc _) (fun hHeld => ?_)
    clear hK K
    refine wpAnyH_take (i := 18) (oi := _) (v := .string ⟨#[]⟩) rfl (by kernel_rfl) (by kernel_rfl) (by kernel_rfl) (fun _ _ _ h => h) (Or.inl ⟨by rfl, fun wS hSw => by go_simp⟩) (by first | trivial | assumption) ?_
    simp only [Act.put, List.getElem_toArray, List.getElem_cons_zero, List.getElem_cons_succ, List.setIfInBounds_toArray, List.set_cons_zero, List.set_cons_succ]
    refine wpAnyH_take (i := 19) (oi := _) (v := .int .i64 0) rfl (by kernel_rfl) (by kernel_rfl) (by kernel_rfl) (fun _ _ _ h => h) (Or.inl ⟨by rfl, fun wS hSw => by go_simp⟩) (by first | trivial | assumption) ?_
    simp only [Act.put, List.getElem_toArray, List.getElem_cons_zero, List.getElem_cons_succ, List.setIfInBounds_toArray, List.set_cons_zero, List.set_cons_succ]
    refine wpAnyH_take (i := 20) (oi := _) (v := .int .i64 (E : Nat)) rfl (by kernel_rfl) (by kernel_rfl) (by kernel_rfl) (fun _ _ _ h => h) (Or.inl ⟨by rfl, fun wS hSw => by go_simp⟩) (by first | trivial | assumption) ?_
    simp only [Act.put, List.getElem_toArray, List.getElem_cons_zero, List.getElem_cons_succ, List.setIfInBounds_toArray, List.set_cons_zero, List.set_cons_succ]
    refine wpAnyH_done (by kernel_rfl) ?_ _
    clear hHeld
    have B2 : Below w.heap.size w (w1.alloc (.cells #[.int .i64 0, .string ⟨#[]⟩, .int .i64 0, .int .i64 0] 30)) := B1.alloc B1.size _
    go_wp2_with fail
    go_ret2
    exact ⟨rfl, B2⟩
  · go_simp
    have hA : Blk (w.alloc (.cells #[.int .i64 0, .string ⟨#[]⟩, .int .i64 0, .int .i64 0] 30)) N 58 (Rr.gs ⟨a, t, buf, i, ⟨⟨sm, st, sc, sr, sn⟩, L, b⟩, k, z, ⟨cst, cln, clf, csz⟩, e⟩ v u) := h.alloc _
    have hMA := Blk.new w 30 [.int .i64 0, .string ⟨#[]⟩, .int .i64 0, .int .i64 0]
    have BA : Below w.heap.size w (w.alloc (.cells #[.int .i64 0, .string ⟨#[]⟩, .int .i64 0, .int .i64 0] 30)) := (Below.refl _ _).alloc (Nat.le_refl _) _
    refine hK.out _ _ (by first | exact hA | exact hA.drew) (fun hHeld => ?_)
    clear hK K
    refine wpAnyH_ready (rs := [10]) (by kernel_rfl) (by simp) ?_
    refine AllReadyH.cons (o := _) rfl (fun K hK => ?_) AllReadyH.nil
    go_simp
    refine (hfd _).mono ?_
    rintro en w1 ⟨rfl, hb1⟩
    have h1 : Blk w1 N 58 (Rr.gs ⟨a, t, buf, i, ⟨⟨sm, st, sc, sr, sn⟩, L, b⟩, k, z, ⟨cst, cln, clf, csz⟩, e⟩ v u) := hA.drew.below hb1
    have hM1 := hMA.drew.below hb1
    have B1 : Below w.heap.size w w1 := BA.drew.trans (hb1.mono BA.size)
    refine hK.out _ _ (h1) (fun hHeld => ?_)
    clear hK K
    clear hb1 hA hMA BA
    have hneW : N ≠ w.heap.size := by have := h.lt; omega
    refine wpAnyH_take (i := 11) (oi := _) (v := .tuple #[.agg #[.int .i64 0, .string ⟨#[]⟩, .int .i64 0, .int .i64 0], .string ⟨#[]⟩, .int .i64 0, .int .i64 (E : Nat)]) rfl (by kernel_rfl) (by kernel_rfl) (by kernel_rfl) (fun _ _ _ h => h) (Or.inl ⟨by rfl, fun wS hSw => by go_simp⟩) (by first | trivial | assumption) ?_
    simp only [Act.put, List.getElem_toArray, List.getElem_cons_zero, List.getElem_cons_succ, List.setIfInBounds_toArray, List.set_cons_zero, List.set_cons_succ]
    refine wpAnyH_take (i := 12) (oi := _) (v := .agg #[.int .i64 0, .string ⟨#[]⟩, .int .i64 0, .int .i64 0]) rfl (by kernel_rfl) (by kernel_rfl) (by kernel_rfl) (fun _ _ _ h => h) (Or.inl ⟨by rfl, fun wS hSw => by go_simp⟩) (by first | trivial | assumption) ?_
    simp only [Act.put, List.getElem_toArray, List.getElem_cons_zero, List.getElem_cons_succ, List.setIfInBounds_toArray, List.set_cons_zero, List.set_cons_succ]
    refine wpAnyH_take (i := 13) (oi := _) (v := .string ⟨#[]⟩) rfl (by kernel_rfl) (by kernel_rfl) (by kernel_rfl) (fun _ _ _ h => h) (Or.inl ⟨by rfl, fun wS hSw => by go_simp⟩) (by first | trivial | assumption) ?_
    simp only [Act.put, List.getElem_toArray, List.getElem_cons_zero, List.getElem_cons_succ, List.setIfInBounds_toArray, List.set_cons_zero, List.set_cons_succ]
    refine wpAnyH_take (i := 14) (oi := _) (v := .int .i64 0) rfl (by kernel_rfl) (by kernel_rfl) (by kernel_rfl) (fun _ _ _ h => h) (Or.inl ⟨by rfl, fun wS hSw => by go_simp⟩) (by first | trivial | assumption) ?_
    simp only [Act.put, List.getElem_toArray, List.getElem_cons_zero, List.getElem_cons_succ, List.setIfInBounds_toArray, List.set_cons_zero, List.set_cons_succ]
    refine wpAnyH_take (i := 15) (oi := _) (v := .int .i64 (E : Nat)) rfl (by kernel_rfl) (by kernel_rfl) (by kernel_rfl) (fun _ _ _ h => h) (Or.inl ⟨by rfl, fun wS hSw => by go_simp⟩) (by first | trivial | assumption) ?_
    simp only [Act.put, List.getElem_toArray, List.getElem_cons_zero, List.getElem_cons_succ, List.setIfInBounds_toArray, List.set_cons_zero, List.set_cons_succ]
    have m0 : w1.cell? ⟨w.heap.size, 0, none⟩ = some (.int .i64 0) := hM1.cell 0 _ rfl
    have m1 : w1.cell? ⟨w.heap.size, 1, none⟩ = some (.string ⟨#[]⟩) := hM1.cell 1 _ rfl
    have m2 : w1.cell? ⟨w.heap.size, 2, none⟩ = some (.int .i64 0) := hM1.cell 2 _ rfl
    have m3 : w1.cell? ⟨w.heap.size, 3, none⟩ = some (.int .i64 0) := hM1.cell 3 _ rfl
    have mf := hM1.fz
    refine wpAnyH_ready (rs := [17]) (by kernel_rfl) (by simp) ?_
    refine AllReadyH.cons (o := _) rfl (fun K hK => ?_) AllReadyH.nil
    go_simp
    refine hK.out _ _ ((((h1.other _ _ _ (Ne.symm hneW)).other _ _ _ (Ne.symm hneW)).other _ _ _ (Ne.symm hneW)).other _ _ _ (Ne.symm hneW)) (fun hHeld => ?_)
    clear hK K
    refine wpAnyH_take (i := 18) (oi := _) (v := .string ⟨#[]⟩) rfl (by kernel_rfl) (by kernel_rfl) (by kernel_rfl) (fun _ _ _ h => h) (Or.inl ⟨by rfl, fun wS hSw => by go_simp⟩) (by first | trivial | assumption) ?_
    simp only [Act.put, List.getElem_toArray, List.getElem_cons_zero, List.getElem_cons_succ, List.setIfInBounds_toArray, List.set_cons_zero, List.set_cons_succ]
    refine wpAnyH_take (i := 19) (oi := _) (v := .int .i64 0) rfl (by kernel_rfl) (by kernel_rfl) (by kernel_rfl) (fun _ _ _ h => h) (Or.inl ⟨by rfl, fun wS hSw => by go_simp⟩) (by first | trivial | assumption) ?_
    simp only [Act.put, List.getElem_toArray, List.getElem_cons_zero, List.getElem_cons_succ, List.setIfInBounds_toArray, List.set_cons_zero, List.set_cons_succ]
    refine wpAnyH_take (i := 20) (oi := _) (v := .int .i64 (E : Nat)) rfl (by kernel_rfl) (by kernel_rfl) (by kernel_rfl) (fun _ _ _ h => h) (Or.inl ⟨by rfl, fun wS hSw => by go_simp⟩) (by first | trivial | assumption) ?_
    simp only [Act.put, List.getElem_toArray, List.getElem_cons_zero, List.getElem_cons_succ, List.setIfInBounds_toArray, List.set_cons_zero, List.set_cons_succ]
    refine wpAnyH_done (by kernel_rfl) ?_ _
    clear hHeld
    have B2 : Below w.heap.size w (World.setCell (World.setCell (World.setCell (World.setCell w1 ⟨w.heap.size, 0, none⟩ (.int .i64 0)) ⟨w.heap.size, 1, none⟩ (.string ⟨#[]⟩)) ⟨w.heap.size, 2, none⟩ (.int .i64 0)) ⟨w.heap.size, 3, none⟩ (.int .i64 0)) := (((B1.setCell (p := ⟨w.heap.size, 0, none⟩) (Nat.le_refl _) _).setCell (p := ⟨w.heap.size, 1, none⟩) (Nat.le_refl _) _).setCell (p := ⟨w.heap.size, 2, none⟩) (Nat.le_refl _) _).setCell (p := ⟨w.heap.size, 3, none⟩) (Nat.le_refl _) _
    clear m0 m1 m2 m3 mf hM1 h1 B1 hneW
    generalize World.setCell _ _ _ = W2 at B2 ⊢
    go_wp2_with fail
    go_ret2
    exact ⟨rfl, B2⟩

set_option maxHeartbeats 8000000 in
theorem chunks_good (r : Rr) (v u : Value) (N : Nat) (w : World) (h : Blk w N 58 (r.gs v u)) (hg : Ck.Good r.c) (hb : r.m.b.length ≤ 1000000) (hbl : r.buf.length ≤ 1000000) (he : (Ck.run r.c r.buf).e = 0) :
    Calls Tryz.prog 75 #[.pointer (some ⟨N, 0, none⟩)] w fun en w' => en = .returned (.tuple #[.bool (decide ((Ck.run r.c r.buf).k.st = 4)), .int .i64 0]) ∧ Blk w' N 58 (Rr.gs { r with m := r.m.more (Ck.run r.c r.buf).d, c := (Ck.run r.c r.buf).k, buf := (Ck.run r.c r.buf).r } v u) ∧ w.grownBy w' (some N) := by
  obtain ⟨n, e1, e2, e3, e4⟩ := run_sizes (l := r.buf) hg he
  have hv := Ck.fdV_good (k := r.c) (l := r.buf) (q := (Ck.run r.c r.buf).k) (d := (Ck.run r.c r.buf).d) (r := (Ck.run r.c r.buf).r) (by
    rw [fd_run hg]
    obtain ⟨x, hx⟩ : ∃ x, Ck.run r.c r.buf = x := ⟨_, rfl⟩
    rw [hx] at he ⊢
    rw [← he])
  rw [e3] at hv
  have hfd := fun W => Ck.feed_any r.c (Ck.bs r.buf) W (Nat.le_trans hg.ln (by omega)) (by rw [Ck.bs_size]; exact hbl)
  rw [Ck.bs_list, hv] at hfd
  have htk := fun W => take_any { r with c := (Ck.run r.c r.buf).k } v u N (Ck.run r.c r.buf).d n W
  simp only at htk
  rw [← e1] at htk
  obtain ⟨⟨qs, ql, qf, qz⟩, hq⟩ : ∃ x, (Ck.run r.c r.buf).k = x := ⟨_, rfl⟩
  rw [hq] at hfd htk ⊢
  obtain ⟨d, hd⟩ : ∃ x, (Ck.run r.c r.buf).d = x := ⟨_, rfl⟩
  rw [hd] at hfd htk e4 ⊢
  obtain ⟨R, hR⟩ : ∃ x, (Ck.run r.c r.buf).r = x := ⟨_, rfl⟩
  rw [hR] at htk ⊢
  clear hv hg he e1 e3 hq hd hR
  obtain ⟨a, t, buf, i, ⟨⟨sm, st, sc, sr, sn⟩, L, b⟩, k, z, ⟨cst, cln, clf, csz⟩, e⟩ := r
  unfold Ck.K.v at hfd
  simp only at hfd hbl hb e2 htk ⊢
  go_enter Tryz.func75, Tryz.ntmps75
  go_wp2_with fail
  refine wp_region_held_drew (S := (fun w' => Blk w' N 58 (Rr.gs ⟨a, t, buf, i, ⟨⟨sm, st, sc, sr, sn⟩, L, b⟩, k, z, ⟨cst, cln, clf, csz⟩, e⟩ v u))) (by kernel_rfl) (h.drew) (fun hHeld => ?_)
  refine wpAnyH_take (i := 0) (oi := _) (v := .pointer (some ⟨N, 0, none⟩)) rfl (by kernel_rfl) (by kernel_rfl) (by kernel_rfl) (fun _ _ _ h => h) (Or.inl ⟨by rfl, fun wS hSw => by go_simp⟩) (by first | trivial | assumption) ?_
  simp only [Act.put, List.getElem_toArray, List.getElem_cons_zero, List.getElem_cons_succ, List.setIfInBounds_toArray, List.set_cons_zero, List.set_cons_succ]
  refine wpAnyH_take (i := 1) (oi := _) (v := .pointer (some ⟨N, 0, none⟩)) rfl (by kernel_rfl) (by kernel_rfl) (by kernel_rfl) (fun _ _ _ h => h) (Or.inl ⟨by rfl, fun wS hSw => by go_simp⟩) (by first | trivial | assumption) ?_
  simp only [Act.put, List.getElem_toArray, List.getElem_cons_zero, List.getElem_cons_succ, List.setIfInBounds_toArray, List.set_cons_zero, List.set_cons_succ]
  refine wpAnyH_take (i := 2) (oi := _) (v := .pointer (some ⟨N, 0, none⟩)) rfl (by kernel_rfl) (by kernel_rfl) (by kernel_rfl) (fun _ _ _ h => h) (Or.inl ⟨by rfl, fun wS hSw => by go_simp⟩) (by first | trivial | assumption) ?_
  simp only [Act.put, List.getElem_toArray, List.getElem_cons_zero, List.getElem_cons_succ, List.setIfInBounds_toArray, List.set_cons_zero, List.set_cons_succ]
  refine wpAnyH_take (i := 3) (oi := _) (v := .pointer (some ⟨N, 13, none⟩)) rfl (by kernel_rfl) (by kernel_rfl) (by kernel_rfl) (fun _ _ _ h => h) (Or.inl ⟨by rfl, fun wS hSw => by go_simp⟩) (by first | trivial | assumption) ?_
  simp only [Act.put, List.getElem_toArray, List.getElem_cons_zero, List.getElem_cons_succ, List.setIfInBounds_toArray, List.set_cons_zero, List.set_cons_succ]
  refine wpAnyH_take (i := 4) (oi := _) (v := .agg #[.int .i64 cst, .string cln, .int .i64 clf, .int .i64 csz]) rfl (by kernel_rfl) (by kernel_rfl) (by kernel_rfl) (fun _ _ _ h => h) (Or.inl ⟨by kernel_rfl, fun wS hSw => by have l13 : World.cell? wS ⟨N, 13, none⟩ = some (.int .i64 cst) := hSw.cell 13 _ rfl; have l14 : World.cell? wS ⟨N, 14, none⟩ = some (.string cln) := hSw.cell 14 _ rfl; have l15 : World.cell? wS ⟨N, 15, none⟩ = some (.int .i64 clf) := hSw.cell 15 _ rfl; have l16 : World.cell? wS ⟨N, 16, none⟩ = some (.int .i64 csz) := hSw.cell 16 _ rfl; go_simp⟩) (by first | trivial | assumption) ?_
  simp only [Act.put, List.getElem_toArray, List.getElem_cons_zero, List.getElem_cons_succ, List.setIfInBounds_toArray, List.set_cons_zero, List.set_cons_succ]
  refine wpAnyH_take (i := 5) (oi := _) (v := .pointer (some ⟨N, 0, none⟩)) rfl (by kernel_rfl) (by kernel_rfl) (by kernel_rfl) (fun _ _ _ h => h) (Or.inl ⟨by rfl, fun wS hSw => by go_simp⟩) (by first | trivial | assumption) ?_
  simp only [Act.put, List.getElem_toArray, List.getElem_cons_zero, List.getElem_cons_succ, List.setIfInBounds_toArray, List.set_cons_zero, List.set_cons_succ]
  refine wpAnyH_take (i := 6) (oi := _) (v := .pointer (some ⟨N, 0, none⟩)) rfl (by kernel_rfl) (by kernel_rfl) (by kernel_rfl) (fun _ _ _ h => h) (Or.inl ⟨by rfl, fun wS hSw => by go_simp⟩) (by first | trivial | assumption) ?_
  simp only [Act.put, List.getElem_toArray, List.getElem_cons_zero, List.getElem_cons_succ, List.setIfInBounds_toArray, List.set_cons_zero, List.set_cons_succ]
  refine wpAnyH_take (i := 7) (oi := _) (v := .pointer (some ⟨N, 0, none⟩)) rfl (by kernel_rfl) (by kernel_rfl) (by kernel_rfl) (fun _ _ _ h => h) (Or.inl ⟨by rfl, fun wS hSw => by go_simp⟩) (by first | trivial | assumption) ?_
  simp only [Act.put, List.getElem_toArray, List.getElem_cons_zero, List.getElem_cons_succ, List.setIfInBounds_toArray, List.set_cons_zero, List.set_cons_succ]
  refine wpAnyH_take (i := 8) (oi := _) (v := .pointer (some ⟨N, 2, none⟩)) rfl (by kernel_rfl) (by kernel_rfl) (by kernel_rfl) (fun _ _ _ h => h) (Or.inl ⟨by rfl, fun wS hSw => by go_simp⟩) (by first | trivial | assumption) ?_
  simp only [Act.put, List.getElem_toArray, List.getElem_cons_zero, List.getElem_cons_succ, List.setIfInBounds_toArray, List.set_cons_zero, List.set_cons_succ]
  refine wpAnyH_take (i := 9) (oi := _) (v := .string (Ck.bs buf)) rfl (by kernel_rfl) (by kernel_rfl) (by kernel_rfl) (fun _ _ _ h => h) (Or.inl ⟨by kernel_rfl, fun wS hSw => by have l2 : World.cell? wS ⟨N, 2, none⟩ = some (.string (Ck.bs buf)) := hSw.cell 2 _ rfl; go_simp⟩) (by first | trivial | assumption) ?_
  simp only [Act.put, List.getElem_toArray, List.getElem_cons_zero, List.getElem_cons_succ, List.setIfInBounds_toArray, List.set_cons_zero, List.set_cons_succ]
  refine wpAnyH_ready (rs := [10, 16]) (by kernel_rfl) (by simp) ?_
  refine AllReadyH.cons (o := _) rfl (fun K hK => ?_) (AllReadyH.cons (o := _) rfl (fun K hK => ?_) AllReadyH.nil)
  · go_simp
    refine (hfd _).mono ?_
    rintro en w1 ⟨rfl, hb1⟩
    have h1 := h.drew.below hb1
    have B1 : Below w.heap.size w w1 := (Below.refl _ w).drew.trans hb1
    refine hK.out _ _ (h1) (fun hHeld => ?_)
    clear hK K
    clear hb1
    refine wpAnyH_take (i := 11) (oi := _) (v := .tuple #[.agg #[.int .i64 qs, .string ql, .int .i64 qf, .int .i64 qz], .string (Ck.bs d), .int .i64 (n : Int), .int .i64 0]) rfl (by kernel_rfl) (by kernel_rfl) (by kernel_rfl) (fun _ _ _ h => h) (Or.inl ⟨by rfl, fun wS hSw => by go_simp⟩) (by first | trivial | assumption) ?_
    simp only [Act.put, List.getElem_toArray, List.getElem_cons_zero, List.getElem_cons_succ, List.setIfInBounds_toArray, List.set_cons_zero, List.set_cons_succ]
    refine wpAnyH_take (i := 12) (oi := _) (v := .agg #[.int .i64 qs, .string ql, .int .i64 qf, .int .i64 qz]) rfl (by kernel_rfl) (by kernel_rfl) (by kernel_rfl) (fun _ _ _ h => h) (Or.inl ⟨by rfl, fun wS hSw => by go_simp⟩) (by first | trivial | assumption) ?_
    simp only [Act.put, List.getElem_toArray, List.getElem_cons_zero, List.getElem_cons_succ, List.setIfInBounds_toArray, List.set_cons_zero, List.set_cons_succ]
    refine wpAnyH_take (i := 13) (oi := _) (v := .string (Ck.bs d)) rfl (by kernel_rfl) (by kernel_rfl) (by kernel_rfl) (fun _ _ _ h => h) (Or.inl ⟨by rfl, fun wS hSw => by go_simp⟩) (by first | trivial | assumption) ?_
    simp only [Act.put, List.getElem_toArray, List.getElem_cons_zero, List.getElem_cons_succ, List.setIfInBounds_toArray, List.set_cons_zero, List.set_cons_succ]
    refine wpAnyH_take (i := 14) (oi := _) (v := .int .i64 (n : Int)) rfl (by kernel_rfl) (by kernel_rfl) (by kernel_rfl) (fun _ _ _ h => h) (Or.inl ⟨by rfl, fun wS hSw => by go_simp⟩) (by first | trivial | assumption) ?_
    simp only [Act.put, List.getElem_toArray, List.getElem_cons_zero, List.getElem_cons_succ, List.setIfInBounds_toArray, List.set_cons_zero, List.set_cons_succ]
    refine wpAnyH_take (i := 15) (oi := _) (v := .int .i64 0) rfl (by kernel_rfl) (by kernel_rfl) (by kernel_rfl) (fun _ _ _ h => h) (Or.inl ⟨by rfl, fun wS hSw => by go_simp⟩) (by first | trivial | assumption) ?_
    simp only [Act.put, List.getElem_toArray, List.getElem_cons_zero, List.getElem_cons_succ, List.setIfInBounds_toArray, List.set_cons_zero, List.set_cons_succ]
    refine wpAnyH_ready (rs := [16]) (by kernel_rfl) (by simp) ?_
    refine AllReadyH.cons (o := _) rfl (fun K hK => ?_) AllReadyH.nil
    go_simp
    refine hK.out _ _ (h1.alloc _) (fun hHeld => ?_)
    clear hK K
    refine wpAnyH_ready (rs := [17]) (by kernel_rfl) (by simp) ?_
    refine AllReadyH.cons (o := _) rfl (fun K hK => ?_) AllReadyH.nil
    go_simp
    refine hK.out _ _ (h1.alloc _) (fun hHeld => ?_)
    clear hK K
    refine wpAnyH_take (i := 18) (oi := _) (v := .string (Ck.bs d)) rfl (by kernel_rfl) (by kernel_rfl) (by kernel_rfl) (fun _ _ _ h => h) (Or.inl ⟨by rfl, fun wS hSw => by go_simp⟩) (by first | trivial | assumption) ?_
    simp only [Act.put, List.getElem_toArray, List.getElem_cons_zero, List.getElem_cons_succ, List.setIfInBounds_toArray, List.set_cons_zero, List.set_cons_succ]
    refine wpAnyH_take (i := 19) (oi := _) (v := .int .i64 (n : Int)) rfl (by kernel_rfl) (by kernel_rfl) (by kernel_rfl) (fun _ _ _ h => h) (Or.inl ⟨by rfl, fun wS hSw => by go_simp⟩) (by first | trivial | assumption) ?_
    simp only [Act.put, List.getElem_toArray, List.getElem_cons_zero, List.getElem_cons_succ, List.setIfInBounds_toArray, List.set_cons_zero, List.set_cons_succ]
    refine wpAnyH_take (i := 20) (oi := _) (v := .int .i64 0) rfl (by kernel_rfl) (by kernel_rfl) (by kernel_rfl) (fun _ _ _ h => h) (Or.inl ⟨by rfl, fun wS hSw => by go_simp⟩) (by first | trivial | assumption) ?_
    simp only [Act.put, List.getElem_toArray, List.getElem_cons_zero, List.getElem_cons_succ, List.setIfInBounds_toArray, List.set_cons_zero, List.set_cons_succ]
    refine wpAnyH_done (by kernel_rfl) ?_ _
    clear hHeld
    have hN2 := h1.alloc (.cells #[.int .i64 qs, .string ql, .int .i64 qf, .int .i64 qz] 30)
    have hM2 := Blk.new w1 30 [.int .i64 qs, .string ql, .int .i64 qf, .int .i64 qz]
    have O2 : w.grownBy (w1.alloc (.cells #[.int .i64 qs, .string ql, .int .i64 qf, .int .i64 qz] 30)) (some N) := only_below (only_below (only_refl w N) B1) ((Below.refl _ _).alloc (Nat.le_refl _) _)
    generalize World.alloc _ _ = W2 at hN2 hM2 O2 ⊢
    generalize w1.heap.size = M at hM2 ⊢
    have hne : N ≠ M := by rintro rfl; have := hN2.ty.symm.trans hM2.ty; exact absurd this (by decide)
    have m0 : W2.cell? ⟨M, 0, none⟩ = some (.int .i64 qs) := hM2.cell 0 _ rfl
    have m1 : W2.cell? ⟨M, 1, none⟩ = some (.string ql) := hM2.cell 1 _ rfl
    have m2 : W2.cell? ⟨M, 2, none⟩ = some (.int .i64 qf) := hM2.cell 2 _ rfl
    have m3 : W2.cell? ⟨M, 3, none⟩ = some (.int .i64 qz) := hM2.cell 3 _ rfl
    have n13 : W2.cell? ⟨N, 13, none⟩ = some (.int .i64 cst) := hN2.cell 13 _ rfl
    have n14 : W2.cell? ⟨N, 14, none⟩ = some (.string cln) := hN2.cell 14 _ rfl
    have n15 : W2.cell? ⟨N, 15, none⟩ = some (.int .i64 clf) := hN2.cell 15 _ rfl
    have n16 : W2.cell? ⟨N, 16, none⟩ = some (.int .i64 csz) := hN2.cell 16 _ rfl
    have nf := hN2.fz
    have hN3 := hN2.sets [.int .i64 qs, .string ql, .int .i64 qf, .int .i64 qz] 13 (show 13 + 4 ≤ 19 by decide)
    have O3 := only_sets [.int .i64 qs, .string ql, .int .i64 qf, .int .i64 qz] 13 O2
    have e5 : sets (Rr.gs ⟨a, t, buf, i, ⟨⟨sm, st, sc, sr, sn⟩, L, b⟩, k, z, ⟨cst, cln, clf, csz⟩, e⟩ v u) 13 [.int .i64 qs, .string ql, .int .i64 qf, .int .i64 qz] = Rr.gs ⟨a, t, buf, i, ⟨⟨sm, st, sc, sr, sn⟩, L, b⟩, k, z, ⟨qs, ql, qf, qz⟩, e⟩ v u := by kernel_rfl
    rw [e5] at hN3
    have HN3 := hide hN3
    have HO3 := hide O3
    clear hN2 hM2 O2 hN3 O3 e5
    go_wp2_with fail
    refine (htk _ HN3.out e2 hb (by omega) hbl).mono ?_
    rintro en w3 ⟨rfl, hb3, ho3⟩
    have p13 : w3.cell? ⟨N, 13, none⟩ = some (.int .i64 qs) := hb3.cell 13 _ rfl
    have HB3 := hide hb3
    have HO4 := hide (only_trans HO3.out ho3)
    clear hb3 ho3 HN3 HO3 m0 m1 m2 m3 n13 n14 n15 n16 nf
    go_wp2_with fail
    refine bodyPost_ret (v := .tuple #[.bool (decide (qs = 4)), .int .i64 0]) (by simp [results, Tryz.results75, go_sem]; rfl) rfl ⟨rfl, HB3.out, HO4.out⟩
  · go_simp
    have hA : Blk (w.alloc (.cells #[.int .i64 0, .string ⟨#[]⟩, .int .i64 0, .int .i64 0] 30)) N 58 (Rr.gs ⟨a, t, buf, i, ⟨⟨sm, st, sc, sr, sn⟩, L, b⟩, k, z, ⟨cst, cln, clf, csz⟩, e⟩ v u) := h.alloc _
    have hMA := Blk.new w 30 [.int .i64 0, .string ⟨#[]⟩, .int .i64 0, .int .i64 0]
    have BA : Below w.heap.size w (w.alloc (.cells #[.int .i64 0, .string ⟨#[]⟩, .int .i64 0, .int .i64 0] 30)) := (Below.refl _ _).alloc (Nat.le_refl _) _
    refine hK.out _ _ (by first | exact hA | exact hA.drew) (fun hHeld => ?_)
    clear hK K
    refine wpAnyH_ready (rs := [10]) (by kernel_rfl) (by simp) ?_
    refine AllReadyH.cons (o := _) rfl (fun K hK => ?_) AllReadyH.nil
    go_simp
    refine (hfd _).mono ?_
    rintro en w1 ⟨rfl, hb1⟩
    have h1 : Blk w1 N 58 (Rr.gs ⟨a, t, buf, i, ⟨⟨sm, st, sc, sr, sn⟩, L, b⟩, k, z, ⟨cst, cln, clf, csz⟩, e⟩ v u) := hA.drew.below hb1
    have hM1 := hMA.drew.below hb1
    have B1 : Below w.heap.size w w1 := BA.drew.trans (hb1.mono BA.size)
    refine hK.out _ _ (h1) (fun hHeld => ?_)
    clear hK K
    clear hb1 hA hMA BA
    have hneW : N ≠ w.heap.size := by have := h.lt; omega
    refine wpAnyH_take (i := 11) (oi := _) (v := .tuple #[.agg #[.int .i64 qs, .string ql, .int .i64 qf, .int .i64 qz], .string (Ck.bs d), .int .i64 (n : Int), .int .i64 0]) rfl (by kernel_rfl) (by kernel_rfl) (by kernel_rfl) (fun _ _ _ h => h) (Or.inl ⟨by rfl, fun wS hSw => by go_simp⟩) (by first | trivial | assumption) ?_
    simp only [Act.put, List.getElem_toArray, List.getElem_cons_zero, List.getElem_cons_succ, List.setIfInBounds_toArray, List.set_cons_zero, List.set_cons_succ]
    refine wpAnyH_take (i := 12) (oi := _) (v := .agg #[.int .i64 qs, .string ql, .int .i64 qf, .int .i64 qz]) rfl (by kernel_rfl) (by kernel_rfl) (by kernel_rfl) (fun _ _ _ h => h) (Or.inl ⟨by rfl, fun wS hSw => by go_simp⟩) (by first | trivial | assumption) ?_
    simp only [Act.put, List.getElem_toArray, List.getElem_cons_zero, List.getElem_cons_succ, List.setIfInBounds_toArray, List.set_cons_zero, List.set_cons_succ]
    refine wpAnyH_take (i := 13) (oi := _) (v := .string (Ck.bs d)) rfl (by kernel_rfl) (by kernel_rfl) (by kernel_rfl) (fun _ _ _ h => h) (Or.inl ⟨by rfl, fun wS hSw => by go_simp⟩) (by first | trivial | assumption) ?_
    simp only [Act.put, List.getElem_toArray, List.getElem_cons_zero, List.getElem_cons_succ, List.setIfInBounds_toArray, List.set_cons_zero, List.set_cons_succ]
    refine wpAnyH_take (i := 14) (oi := _) (v := .int .i64 (n : Int)) rfl (by kernel_rfl) (by kernel_rfl) (by kernel_rfl) (fun _ _ _ h => h) (Or.inl ⟨by rfl, fun wS hSw => by go_simp⟩) (by first | trivial | assumption) ?_
    simp only [Act.put, List.getElem_toArray, List.getElem_cons_zero, List.getElem_cons_succ, List.setIfInBounds_toArray, List.set_cons_zero, List.set_cons_succ]
    refine wpAnyH_take (i := 15) (oi := _) (v := .int .i64 0) rfl (by kernel_rfl) (by kernel_rfl) (by kernel_rfl) (fun _ _ _ h => h) (Or.inl ⟨by rfl, fun wS hSw => by go_simp⟩) (by first | trivial | assumption) ?_
    simp only [Act.put, List.getElem_toArray, List.getElem_cons_zero, List.getElem_cons_succ, List.setIfInBounds_toArray, List.set_cons_zero, List.set_cons_succ]
    have m0 : w1.cell? ⟨w.heap.size, 0, none⟩ = some (.int .i64 0) := hM1.cell 0 _ rfl
    have m1 : w1.cell? ⟨w.heap.size, 1, none⟩ = some (.string ⟨#[]⟩) := hM1.cell 1 _ rfl
    have m2 : w1.cell? ⟨w.heap.size, 2, none⟩ = some (.int .i64 0) := hM1.cell 2 _ rfl
    have m3 : w1.cell? ⟨w.heap.size, 3, none⟩ = some (.int .i64 0) := hM1.cell 3 _ rfl
    have mf := hM1.fz
    refine wpAnyH_ready (rs := [17]) (by kernel_rfl) (by simp) ?_
    refine AllReadyH.cons (o := _) rfl (fun K hK => ?_) AllReadyH.nil
    go_simp
    refine hK.out _ _ ((((h1.other _ _ _ (Ne.symm hneW)).other _ _ _ (Ne.symm hneW)).other _ _ _ (Ne.symm hneW)).other _ _ _ (Ne.symm hneW)) (fun hHeld => ?_)
    clear hK K
    refine wpAnyH_take (i := 18) (oi := _) (v := .string (Ck.bs d)) rfl (by kernel_rfl) (by kernel_rfl) (by kernel_rfl) (fun _ _ _ h => h) (Or.inl ⟨by rfl, fun wS hSw => by go_simp⟩) (by first | trivial | assumption) ?_
    simp only [Act.put, List.getElem_toArray, List.getElem_cons_zero, List.getElem_cons_succ, List.setIfInBounds_toArray, List.set_cons_zero, List.set_cons_succ]
    refine wpAnyH_take (i := 19) (oi := _) (v := .int .i64 (n : Int)) rfl (by kernel_rfl) (by kernel_rfl) (by kernel_rfl) (fun _ _ _ h => h) (Or.inl ⟨by rfl, fun wS hSw => by go_simp⟩) (by first | trivial | assumption) ?_
    simp only [Act.put, List.getElem_toArray, List.getElem_cons_zero, List.getElem_cons_succ, List.setIfInBounds_toArray, List.set_cons_zero, List.set_cons_succ]
    refine wpAnyH_take (i := 20) (oi := _) (v := .int .i64 0) rfl (by kernel_rfl) (by kernel_rfl) (by kernel_rfl) (fun _ _ _ h => h) (Or.inl ⟨by rfl, fun wS hSw => by go_simp⟩) (by first | trivial | assumption) ?_
    simp only [Act.put, List.getElem_toArray, List.getElem_cons_zero, List.getElem_cons_succ, List.setIfInBounds_toArray, List.set_cons_zero, List.set_cons_succ]
    refine wpAnyH_done (by kernel_rfl) ?_ _
    clear hHeld
    have B2 : Below w.heap.size w (World.setCell (World.setCell (World.setCell (World.setCell w1 ⟨w.heap.size, 0, none⟩ (.int .i64 qs)) ⟨w.heap.size, 1, none⟩ (.string ql)) ⟨w.heap.size, 2, none⟩ (.int .i64 qf)) ⟨w.heap.size, 3, none⟩ (.int .i64 qz)) := (((B1.setCell (p := ⟨w.heap.size, 0, none⟩) (Nat.le_refl _) _).setCell (p := ⟨w.heap.size, 1, none⟩) (Nat.le_refl _) _).setCell (p := ⟨w.heap.size, 2, none⟩) (Nat.le_refl _) _).setCell (p := ⟨w.heap.size, 3, none⟩) (Nat.le_refl _) _
    have hN2 : Blk (World.setCell (World.setCell (World.setCell (World.setCell w1 ⟨w.heap.size, 0, none⟩ (.int .i64 qs)) ⟨w.heap.size, 1, none⟩ (.string ql)) ⟨w.heap.size, 2, none⟩ (.int .i64 qf)) ⟨w.heap.size, 3, none⟩ (.int .i64 qz)) N 58 (Rr.gs ⟨a, t, buf, i, ⟨⟨sm, st, sc, sr, sn⟩, L, b⟩, k, z, ⟨cst, cln, clf, csz⟩, e⟩ v u) := (((h1.other _ _ _ (Ne.symm hneW)).other _ _ _ (Ne.symm hneW)).other _ _ _ (Ne.symm hneW)).other _ _ _ (Ne.symm hneW)
    have hM2 : Blk (World.setCell (World.setCell (World.setCell (World.setCell w1 ⟨w.heap.size, 0, none⟩ (.int .i64 qs)) ⟨w.heap.size, 1, none⟩ (.string ql)) ⟨w.heap.size, 2, none⟩ (.int .i64 qf)) ⟨w.heap.size, 3, none⟩ (.int .i64 qz)) w.heap.size 30 [.int .i64 qs, .string ql, .int .i64 qf, .int .i64 qz] := hM1.sets [.int .i64 qs, .string ql, .int .i64 qf, .int .i64 qz] 0 (show 0 + 4 ≤ 4 by decide)
    have O2 : w.grownBy (World.setCell (World.setCell (World.setCell (World.setCell w1 ⟨w.heap.size, 0, none⟩ (.int .i64 qs)) ⟨w.heap.size, 1, none⟩ (.string ql)) ⟨w.heap.size, 2, none⟩ (.int .i64 qf)) ⟨w.heap.size, 3, none⟩ (.int .i64 qz)) (some N) := only_below (only_refl w N) B2
    clear m0 m1 m2 m3 mf hM1 h1 B1 B2 hneW
    generalize World.setCell _ _ _ = W2 at hN2 hM2 O2 ⊢
    generalize w.heap.size = M at hM2 ⊢
    have hne : N ≠ M := by rintro rfl; have := hN2.ty.symm.trans hM2.ty; exact absurd this (by decide)
    have m0 : W2.cell? ⟨M, 0, none⟩ = some (.int .i64 qs) := hM2.cell 0 _ rfl
    have m1 : W2.cell? ⟨M, 1, none⟩ = some (.string ql) := hM2.cell 1 _ rfl
    have m2 : W2.cell? ⟨M, 2, none⟩ = some (.int .i64 qf) := hM2.cell 2 _ rfl
    have m3 : W2.cell? ⟨M, 3, none⟩ = some (.int .i64 qz) := hM2.cell 3 _ rfl
    have n13 : W2.cell? ⟨N, 13, none⟩ = some (.int .i64 cst) := hN2.cell 13 _ rfl
    have n14 : W2.cell? ⟨N, 14, none⟩ = some (.string cln) := hN2.cell 14 _ rfl
    have n15 : W2.cell? ⟨N, 15, none⟩ = some (.int .i64 clf) := hN2.cell 15 _ rfl
    have n16 : W2.cell? ⟨N, 16, none⟩ = some (.int .i64 csz) := hN2.cell 16 _ rfl
    have nf := hN2.fz
    have hN3 := hN2.sets [.int .i64 qs, .string ql, .int .i64 qf, .int .i64 qz] 13 (show 13 + 4 ≤ 19 by decide)
    have O3 := only_sets [.int .i64 qs, .string ql, .int .i64 qf, .int .i64 qz] 13 O2
    have e5 : sets (Rr.gs ⟨a, t, buf, i, ⟨⟨sm, st, sc, sr, sn⟩, L, b⟩, k, z, ⟨cst, cln, clf, csz⟩, e⟩ v u) 13 [.int .i64 qs, .string ql, .int .i64 qf, .int .i64 qz] = Rr.gs ⟨a, t, buf, i, ⟨⟨sm, st, sc, sr, sn⟩, L, b⟩, k, z, ⟨qs, ql, qf, qz⟩, e⟩ v u := by kernel_rfl
    rw [e5] at hN3
    have HN3 := hide hN3
    have HO3 := hide O3
    clear hN2 hM2 O2 hN3 O3 e5
    go_wp2_with fail
    refine (htk _ HN3.out e2 hb (by omega) hbl).mono ?_
    rintro en w3 ⟨rfl, hb3, ho3⟩
    have p13 : w3.cell? ⟨N, 13, none⟩ = some (.int .i64 qs) := hb3.cell 13 _ rfl
    have HB3 := hide hb3
    have HO4 := hide (only_trans HO3.out ho3)
    clear hb3 ho3 HN3 HO3 m0 m1 m2 m3 n13 n14 n15 n16 nf
    go_wp2_with fail
    refine bodyPost_ret (v := .tuple #[.bool (decide (qs = 4)), .int .i64 0]) (by simp [results, Tryz.results75, go_sem]; rfl) rfl ⟨rfl, HB3.out, HO4.out⟩

end Go.Proofs.YtmpijlaidnhpnaaGreat
