/- The walk of what several lengths say. -/
import Derived.Test.YtplanlhgcckioaaDoorGc
namespace Go.Proofs.YtplanlhgcckioaaDoor
set_option linter.unusedVariables false
set_option linter.unusedSimpArgs false
set_option maxRecDepth 100000
open Go.RowKit

/-- A row of texts that can be read, from its block's beginning on. -/
def RowS (w : World) (v : Value) (A : List ByteArray) : Prop := ∃ (a : Option Addr) (cap : Nat), v = .slice a A.length cap ∧ A.length ≤ cap ∧
  ∀ k (h : k < A.length), ∃ g, a = some ⟨g, 0, none⟩ ∧ g < w.heap.size ∧ w.cell? ⟨g, k, none⟩ = some (.string A[k])
theorem RowS.below {w w' : World} {v : Value} {A : List ByteArray} (h : RowS w v A) (hb : Below w.heap.size w w') : RowS w' v A := by
  obtain ⟨a, cap, h1, h2, h3⟩ := h
  refine ⟨a, cap, h1, h2, fun k hk => ?_⟩
  obtain ⟨g, e, hg, c0⟩ := h3 k hk
  exact ⟨g, e, Nat.lt_of_lt_of_le hg hb.size, ((stays hb).1 _ _ hg).trans c0⟩
theorem sy_ret (a b : Sy) (h : a = b) : Ending.returned (syV a) = .returned (syV b) := by rw [h]

set_option maxHeartbeats 4000000 in
theorem lengthsSay_any (x : ByteArray) (r : List ByteArray) (v : Value) (w : World) (hr : RowS w v (x :: r)) (hl : r.length ≤ 1000) (hs : ∀ y ∈ x :: r, y.size ≤ 10000) :
    Calls Tryd.prog 48 #[v] w fun e w' => e = .returned (syV (lensF x r)) ∧ Below w.heap.size w w' := by
  obtain ⟨a, cap, rfl, hcap, hR⟩ := hr
  obtain ⟨g, rfl, hg, c0⟩ := hR 0 (by simp)
  have hR' : Hid (∀ k (h : k < r.length), w.cell? ⟨g, k + 1, none⟩ = some (.string r[k])) := by
    intro k hk
    obtain ⟨g', e, -, c⟩ := hR (k + 1) (by simp; omega)
    cases e
    exact c
  have HS : Hid (∀ y ∈ r, y.size ≤ 10000) := fun y hy => hs y (by simp [hy])
  have hx := hs x (by simp)
  have hle := ls_le x
  have HYES : Hid ((∀ y ∈ r, lsF y = lsF x) → lensF x r = ls2 (lsF x)) := lens_yes
  have HNO : Hid (∀ y ∈ r, lsF y ≠ lsF x → lensF x r = (0, 0, 32)) := fun y hy h => lens_no hy h
  clear hR hs
  rw [List.length_cons] at hcap ⊢
  have hcall := fun w => lengthSays_any x w (by unfold maxLen; omega)
  obtain ⟨⟨k, z, e⟩, hy⟩ : ∃ y, lsF x = y := ⟨_, rfl⟩
  rw [hy] at hcall hle HYES
  rw [hy] at HNO
  clear hy
  simp only at hle
  obtain ⟨n, hn⟩ : ∃ n, r.length = n := ⟨_, rfl⟩
  rw [hn] at hcap hl ⊢
  have HN := hide hn
  clear hn
  by_cases hc1 : cap = 1
  · subst hc1
    have hn0 : n = 0 := by omega
    have hN0 : Th (w.alloc (.cells #[.int .i64 0, .int .u64 0, .int .i64 0] 56)) w.heap.size 0 0 0 := Th.new w 0 0 0
    have hB0 := one_alloc w #[.int .i64 0, .int .u64 0, .int .i64 0] 56
    have d0 : (w.alloc (.cells #[.int .i64 0, .int .u64 0, .int .i64 0] 56)).cell? ⟨g, 0, none⟩ = some (.string x) := ((stays hB0).1 _ _ hg).trans c0
    go_enter Tryd.func48, Tryd.ntmps48
    go_wp2_with fail
    generalize w.alloc _ = W0 at hN0 hB0 d0 ⊢
    refine (hcall _).mono ?_
    rintro en w1 ⟨rfl, hb1⟩
    have hN1 := (hN0.below hb1).alloc (.cells #[.int .i64 (k : Int), .int .u64 (z : Int), .int .i64 (e : Int)] 56)
    have hB1' := hB0.trans (hb1.mono hB0.size)
    have hB1 := hB1'.alloc hB1'.size (.cells #[.int .i64 (k : Int), .int .u64 (z : Int), .int .i64 (e : Int)] 56)
    have hT1 := Th.new w1 k z e
    have hlt1 : w.heap.size < w1.heap.size := (hN0.below hb1).lt
    have hgz : g < w.heap.size := hg
    clear hN0 hB0 d0 hb1 hcall hB1' c0 hg hx
    unfold syV
    go_wp2_with fail
    generalize w1.alloc _ = W2 at hN1 hB1 hT1 ⊢
    generalize w1.heap.size = N1 at hT1 hlt1 ⊢
    go_loopw [5, 13] (fun _ i wr => ∃ j : Nat, j ≤ n ∧ i = .int .i64 j ∧ Below w.heap.size w wr ∧ Th wr N1 k z e ∧ Th wr w.heap.size 0 0 0 ∧ Hid (∀ y ∈ r.take j, lsF y = (k, z, e))) (fun _ i _ => n - (intOf i).toNat)
    case atStart => exact ⟨0, Nat.zero_le _, rfl, hB1, hT1, hN1, by simp [Hid]⟩
    case round =>
      clear hN1 hB1 hT1
      obtain ⟨j, hj, rfl, hbr, hT, hZ, hall⟩ := hrel
      by_cases hlt : j < n
      · have hltz : (j : Int) < n := by omega
        exfalso
        omega
      · have hd : decide ((j : Int) < n) = false := decide_eq_false (by omega)
        rw [List.take_of_length_le (by rw [HN.out]; omega)] at hall
        have HE := hide (HYES.out hall.out)
        obtain ⟨t0, t1, t2, -, -⟩ := id hT
        obtain ⟨z0, z1, z2, -, zf⟩ := id hZ
        clear hall
        by_cases hbig : 20000 < z
        · have HL := hide (HE.out.trans (ls2_no (y := (k, z, e)) hbig))
          have hbz : (20000 : Int) < (z : Int) := by omega
          clear hbig
          go_wp2_with fail
          refine bodyPost_ret (v := syV (0, 0, 2)) (by simp [results, Tryd.results48, go_sem, syV, z0, z1, z2, zf]) rfl ⟨by rw [HL.out], ?_⟩
          exact put3_below hbr (Nat.le_refl _) 0 0 2
        · have HL := hide (HE.out.trans (ls2_yes (y := (k, z, e)) hbig))
          have hbz : decide ((20000 : Int) < (z : Int)) = false := decide_eq_false (by omega)
          clear hbig
          go_wp2_with fail
          refine bodyPost_ret (v := syV (k, z, e)) (by simp [results, Tryd.results48, go_sem, syV, z0, z1, z2, zf]) rfl ⟨by rw [HL.out], ?_⟩
          exact put3_below hbr (Nat.le_refl _) k z e
  · have hc2 : (cap : Int) ≠ 1 := by omega
    have hN0 : Th (w.alloc (.cells #[.int .i64 0, .int .u64 0, .int .i64 0] 56)) w.heap.size 0 0 0 := Th.new w 0 0 0
    have hB0 := one_alloc w #[.int .i64 0, .int .u64 0, .int .i64 0] 56
    have d0 : (w.alloc (.cells #[.int .i64 0, .int .u64 0, .int .i64 0] 56)).cell? ⟨g, 0, none⟩ = some (.string x) := ((stays hB0).1 _ _ hg).trans c0
    go_enter Tryd.func48, Tryd.ntmps48
    go_wp2_with fail
    generalize w.alloc _ = W0 at hN0 hB0 d0 ⊢
    refine (hcall _).mono ?_
    rintro en w1 ⟨rfl, hb1⟩
    have hN1 := (hN0.below hb1).alloc (.cells #[.int .i64 (k : Int), .int .u64 (z : Int), .int .i64 (e : Int)] 56)
    have hB1' := hB0.trans (hb1.mono hB0.size)
    have hB1 := hB1'.alloc hB1'.size (.cells #[.int .i64 (k : Int), .int .u64 (z : Int), .int .i64 (e : Int)] 56)
    have hT1 := Th.new w1 k z e
    have hlt1 : w.heap.size < w1.heap.size := (hN0.below hb1).lt
    have hgz : g < w.heap.size := hg
    clear hN0 hB0 d0 hb1 hcall hB1' c0 hg hx
    unfold syV
    go_wp2_with fail
    generalize w1.alloc _ = W2 at hN1 hB1 hT1 ⊢
    generalize w1.heap.size = N1 at hT1 hlt1 ⊢
    go_loopw [5, 13] (fun _ i wr => ∃ j : Nat, j ≤ n ∧ i = .int .i64 j ∧ Below w.heap.size w wr ∧ Th wr N1 k z e ∧ Th wr w.heap.size 0 0 0 ∧ Hid (∀ y ∈ r.take j, lsF y = (k, z, e))) (fun _ i _ => n - (intOf i).toNat)
    case atStart => exact ⟨0, Nat.zero_le _, rfl, hB1, hT1, hN1, by simp [Hid]⟩
    case round =>
      clear hN1 hB1 hT1
      obtain ⟨j, hj, rfl, hbr, hT, hZ, hall⟩ := hrel
      by_cases hlt : j < n
      · have hltz : (j : Int) < n := by omega
        have hjr : j < r.length := by rw [HN.out]; exact hlt
        have hcell : wr.cell? ⟨g, 1 + j, none⟩ = some (.string r[j]) := by
          rw [(stays hbr).1 _ _ hgz, Nat.add_comm]
          exact hR'.out j hjr
        have hys := HS.out _ (List.getElem_mem hjr)
        have HNO' := hide (HNO.out _ (List.getElem_mem hjr))
        have NXT := hide (take_next (p := fun y => lsF y = (k, z, e)) hjr hall.out)
        obtain ⟨y, hy⟩ : ∃ y, r[j]'hjr = y := ⟨_, rfl⟩
        rw [hy] at hcell hys HNO' NXT
        have hcy := fun w => lengthSays_any y w (by unfold maxLen; omega)
        clear hy hall
        by_cases hyx : lsF y = (k, z, e)
        · rw [hyx] at hcy
          have NX := hide (NXT.out hyx)
          clear NXT HNO' hyx
          unfold syV at hcy
          go_wp2_with fail
          refine wp_region_held_drew (S := (fun w' => Th w' N1 k z e)) (by kernel_rfl) (hT.drew) (fun hHeld => ?_)
          refine wpAnyH_take (i := 0) (oi := _) (v := .string y) rfl (by kernel_rfl) (by kernel_rfl) (by kernel_rfl) (fun _ _ _ h => h) (Or.inl ⟨by rfl, fun wS hSw => by go_simp⟩) (by first | trivial | assumption) ?_
          simp only [Act.put, List.getElem_toArray, List.getElem_cons_zero, List.getElem_cons_succ, List.setIfInBounds_toArray, List.set_cons_zero, List.set_cons_succ]
          refine wpAnyH_take (i := 2) (oi := _) (v := .agg #[.int .i64 (k : Int), .int .u64 (z : Int), .int .i64 (e : Int)]) rfl (by kernel_rfl) (by kernel_rfl) (by kernel_rfl) (fun _ _ _ h => h) (Or.inl ⟨by kernel_rfl, fun wS hSw => by have l0 := hSw.c0; have l1 := hSw.c1; have l2 := hSw.c2; go_simp⟩) (by first | trivial | assumption) ?_
          simp only [Act.put, List.getElem_toArray, List.getElem_cons_zero, List.getElem_cons_succ, List.setIfInBounds_toArray, List.set_cons_zero, List.set_cons_succ]
          refine wpAnyH_ready (rs := [1]) (by kernel_rfl) (by simp) ?_
          refine AllReadyH.cons (o := _) rfl (fun K hK => ?_) AllReadyH.nil
          go_simp
          refine (hcy _).mono ?_
          rintro en w2 ⟨rfl, hb2⟩
          refine hK.out _ _ ((hT.drew.below hb2)) (fun hHeld => ?_)
          clear hK K
          refine wpAnyH_take (i := 3) (oi := _) (v := .bool false) rfl (by kernel_rfl) (by kernel_rfl) (by kernel_rfl) (fun _ _ _ h => h) (Or.inl ⟨by rfl, fun wS hSw => by go_simp⟩) (by first | trivial | assumption) ?_
          simp only [Act.put, List.getElem_toArray, List.getElem_cons_zero, List.getElem_cons_succ, List.setIfInBounds_toArray, List.set_cons_zero, List.set_cons_succ]
          refine wpAnyH_done (by kernel_rfl) ?_ _
          have hB2 := hbr.drew.trans (hb2.mono hbr.size)
          have hT2 := hT.drew.below hb2
          have hZ2 := hZ.drew.below hb2
          go_wp2_with fail
          exact ⟨⟨j + 1, by omega, by go_num, hB2, hT2, hZ2, NX.out⟩, by simp [intOf]; omega⟩
        · have HE := hide (HNO'.out hyx)
          clear NXT HNO'
          obtain ⟨⟨k', z', e'⟩, hk'⟩ : ∃ q, lsF y = q := ⟨_, rfl⟩
          rw [hk'] at hcy hyx
          clear hk'
          have hne : (k' : Int) = k → (z' : Int) = z → ¬ (e' : Int) = e := by
            intro q1 q2 q3
            obtain rfl : k' = k := by omega
            obtain rfl : z' = z := by omega
            obtain rfl : e' = e := by omega
            exact hyx rfl
          clear hyx
          unfold syV at hcy
          go_wp2_with fail
          refine wp_region_held_drew (S := (fun w' => Th w' N1 k z e)) (by kernel_rfl) (hT.drew) (fun hHeld => ?_)
          refine wpAnyH_take (i := 0) (oi := _) (v := .string y) rfl (by kernel_rfl) (by kernel_rfl) (by kernel_rfl) (fun _ _ _ h => h) (Or.inl ⟨by rfl, fun wS hSw => by go_simp⟩) (by first | trivial | assumption) ?_
          simp only [Act.put, List.getElem_toArray, List.getElem_cons_zero, List.getElem_cons_succ, List.setIfInBounds_toArray, List.set_cons_zero, List.set_cons_succ]
          refine wpAnyH_take (i := 2) (oi := _) (v := .agg #[.int .i64 (k : Int), .int .u64 (z : Int), .int .i64 (e : Int)]) rfl (by kernel_rfl) (by kernel_rfl) (by kernel_rfl) (fun _ _ _ h => h) (Or.inl ⟨by kernel_rfl, fun wS hSw => by have l0 := hSw.c0; have l1 := hSw.c1; have l2 := hSw.c2; go_simp⟩) (by first | trivial | assumption) ?_
          simp only [Act.put, List.getElem_toArray, List.getElem_cons_zero, List.getElem_cons_succ, List.setIfInBounds_toArray, List.set_cons_zero, List.set_cons_succ]
          refine wpAnyH_ready (rs := [1]) (by kernel_rfl) (by simp) ?_
          refine AllReadyH.cons (o := _) rfl (fun K hK => ?_) AllReadyH.nil
          go_simp
          refine (hcy _).mono ?_
          rintro en w2 ⟨rfl, hb2⟩
          refine hK.out _ _ ((hT.drew.below hb2)) (fun hHeld => ?_)
          clear hK K
          refine wpAnyH_take (i := 3) (oi := _) (v := .bool true) rfl (by kernel_rfl) (by kernel_rfl) (by kernel_rfl) (fun _ _ _ h => h) (Or.inl ⟨by rfl, fun wS hSw => by go_simp; exact hne⟩) (by first | trivial | assumption) ?_
          simp only [Act.put, List.getElem_toArray, List.getElem_cons_zero, List.getElem_cons_succ, List.setIfInBounds_toArray, List.set_cons_zero, List.set_cons_succ]
          refine wpAnyH_done (by kernel_rfl) ?_ _
          have hB2 := hbr.drew.trans (hb2.mono hbr.size)
          have hZ2 := hZ.drew.below hb2
          obtain ⟨z0, z1, z2, -, zf⟩ := id hZ2
          go_wp2_with fail
          refine bodyPost_ret (v := syV (0, 0, 32)) (by simp [results, Tryd.results48, go_sem, syV, z0, z1, z2, zf]) rfl ⟨by rw [HE.out], ?_⟩
          exact put3_below hB2 (Nat.le_refl _) 0 0 32
      · have hd : decide ((j : Int) < n) = false := decide_eq_false (by omega)
        rw [List.take_of_length_le (by rw [HN.out]; omega)] at hall
        have HE := hide (HYES.out hall.out)
        obtain ⟨t0, t1, t2, -, -⟩ := id hT
        obtain ⟨z0, z1, z2, -, zf⟩ := id hZ
        clear hall
        by_cases hbig : 20000 < z
        · have HL := hide (HE.out.trans (ls2_no (y := (k, z, e)) hbig))
          have hbz : (20000 : Int) < (z : Int) := by omega
          clear hbig
          go_wp2_with fail
          refine bodyPost_ret (v := syV (0, 0, 2)) (by simp [results, Tryd.results48, go_sem, syV, z0, z1, z2, zf]) rfl ⟨by rw [HL.out], ?_⟩
          exact put3_below hbr (Nat.le_refl _) 0 0 2
        · have HL := hide (HE.out.trans (ls2_yes (y := (k, z, e)) hbig))
          have hbz : decide ((20000 : Int) < (z : Int)) = false := decide_eq_false (by omega)
          clear hbig
          go_wp2_with fail
          refine bodyPost_ret (v := syV (k, z, e)) (by simp [results, Tryd.results48, go_sem, syV, z0, z1, z2, zf]) rfl ⟨by rw [HL.out], ?_⟩
          exact put3_below hbr (Nat.le_refl _) k z e

end Go.Proofs.YtplanlhgcckioaaDoor
