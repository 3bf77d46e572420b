/- The walk of Feed. -/
import Derived.Test.YtmpijlaidnhpnaaGreatJKd
namespace Go.Proofs.YtmpijlaidnhpnaaGreat.Ck
set_option linter.unusedVariables false
set_option linter.unusedSimpArgs false
set_option maxRecDepth 100000
open Go.RowKit

theorem Four.other {w : World} {N : Nat} {k : K} (h : Four w N k) (M j : Nat) (v : Value) (hM : M ≠ N) : Four (w.setCell ⟨M, j, none⟩ v) N k := by
  have hc : ∀ i, (w.setCell ⟨M, j, none⟩ v).cell? ⟨N, i, none⟩ = w.cell? ⟨N, i, none⟩ := fun i => World.cell?_setCell_other _ _ _ _ (by simp [Ne.symm hM])
  exact ⟨(hc 0).trans h.c0, (hc 1).trans h.c1, (hc 2).trans h.c2, (hc 3).trans h.c3, by simpa using h.lt, fun o => by rw [World.frozen?_setCell]; exact h.fz o⟩
/-- All four at once. -/
def put4 (w : World) (N : Nat) (k : K) : World := (((w.setCell ⟨N, 0, none⟩ (.int .i64 k.st)).setCell ⟨N, 1, none⟩ (.string k.line)).setCell ⟨N, 2, none⟩ (.int .i64 k.left)).setCell ⟨N, 3, none⟩ (.int .i64 k.size)
theorem put4_four {w : World} {N : Nat} {k : K} (h : Four w N k) (x : K) : Four (put4 w N x) N x := by
  have e0 : (w.setCell ⟨N, 0, none⟩ (.int .i64 x.st)).cell? ⟨N, 0, none⟩ = some (.int .i64 x.st) := World.cell?_setCell_same _ _ _ h.c0
  refine ⟨?_, ?_, ?_, ?_, by simpa [put4] using h.lt, fun o => by unfold put4; rw [World.frozen?_setCell, World.frozen?_setCell, World.frozen?_setCell, World.frozen?_setCell]; exact h.fz o⟩
  · exact (World.cell?_setCell_other _ _ _ _ (by simp)).trans ((World.cell?_setCell_other _ _ _ _ (by simp)).trans ((World.cell?_setCell_other _ _ _ _ (by simp)).trans e0))
  · exact (World.cell?_setCell_other _ _ _ _ (by simp)).trans ((World.cell?_setCell_other _ _ _ _ (by simp)).trans (World.cell?_setCell_same _ _ _ ((World.cell?_setCell_other _ _ _ _ (by simp)).trans h.c1)))
  · exact (World.cell?_setCell_other _ _ _ _ (by simp)).trans (World.cell?_setCell_same _ _ _ ((World.cell?_setCell_other _ _ _ _ (by simp)).trans ((World.cell?_setCell_other _ _ _ _ (by simp)).trans h.c2)))
  · exact World.cell?_setCell_same _ _ _ ((World.cell?_setCell_other _ _ _ _ (by simp)).trans ((World.cell?_setCell_other _ _ _ _ (by simp)).trans ((World.cell?_setCell_other _ _ _ _ (by simp)).trans h.c3)))
theorem put4_other {w : World} {N M : Nat} {k : K} (h : Four w N k) (x : K) (hM : M ≠ N) : Four (put4 w M x) N k := (((h.other M _ _ hM).other M _ _ hM).other M _ _ hM).other M _ _ hM
theorem put4_below {B : Nat} {w w' : World} (h : Below B w w') {N : Nat} (hN : B ≤ N) (x : K) : Below B w (put4 w' N x) := (((h.setCell hN _).setCell hN _).setCell hN _).setCell hN _

/-- What Feed tells. -/
def fd (k : K) (l : List UInt8) : Rs := if rtB k = true then run k l else bad 1
def fdN (k : K) (l : List UInt8) : Int := if (fd k l).e = 0 then (l.length : Int) - ((fd k l).r.length : Int) else 0
def fdV (k : K) (l : List UInt8) : Value := .tuple #[(fd k l).k.v, .string (bs (fd k l).d), .int .i64 (fdN k l), .int .i64 ((fd k l).e : Nat)]

def restOf (w : World) (N : Nat) : Nat := match w.cell? ⟨N, 4, none⟩ with | some (.string s) => s.size | _ => 0
theorem Rd.rest {w : World} {N : Nat} {k : K} {r : ByteArray} {v : Value} {d : List UInt8} (h : Rd w N k r v d) : restOf w N = r.size := by unfold restOf; rw [h.c4]

theorem fdV_bad {k : K} {l : List UInt8} {E : Nat} (hE : E ≠ 0) (h : fd k l = bad E) : fdV k l = .tuple #[.agg #[.int .i64 0, .string ⟨#[]⟩, .int .i64 0, .int .i64 0], .string ⟨#[]⟩, .int .i64 0, .int .i64 (E : Nat)] := by
  unfold fdV fdN; rw [h, if_neg (by exact hE)]; rfl
theorem fdV_good {k : K} {l : List UInt8} {q : K} {d r : List UInt8} (h : fd k l = ⟨0, q, d, r⟩) : fdV k l = .tuple #[.agg #[.int .i64 q.st, .string q.line, .int .i64 q.left, .int .i64 q.size], .string (bs d), .int .i64 ((l.length : Int) - (r.length : Int)), .int .i64 0] := by
  unfold fdV fdN; rw [h, if_pos rfl]; rfl

/-- Between two rounds of the loop. -/
structure Fed (W wr : World) (N : Nat) (k0' : K) (s : ByteArray) (k : K) (r : ByteArray) (v : Value) (d : List UInt8) : Prop where
  rd : Rd wr N k r v d
  be : Below N W wr
  gk : Good k
  sz : d.length + r.size ≤ s.size
  eq : run k0' s.data.toList = (run k r.data.toList).on d

theorem Four.drew {w : World} {N : Nat} {k : K} (h : Four w N k) : Four w.drew N k := ⟨h.c0, h.c1, h.c2, h.c3, h.lt, h.fz⟩
theorem Rd.other {w : World} {N : Nat} {k : K} {r : ByteArray} {v : Value} {d : List UInt8} (h : Rd w N k r v d) (M j : Nat) (x : Value) (hM : M < N) : Rd (w.setCell ⟨M, j, none⟩ x) N k r v d := by
  have hc : ∀ i, (w.setCell ⟨M, j, none⟩ x).cell? ⟨N, i, none⟩ = w.cell? ⟨N, i, none⟩ := fun i => World.cell?_setCell_other _ _ _ _ (by simp [Ne.symm (Nat.ne_of_lt hM)])
  refine ⟨(hc 0).trans h.c0, (hc 1).trans h.c1, (hc 2).trans h.c2, (hc 3).trans h.c3, (hc 4).trans h.c4, (hc 5).trans h.c5, by simpa using h.lt, fun o => by rw [World.frozen?_setCell]; exact h.fz o, h.ow.1, ?_⟩
  rcases h.ow.2 with h | ⟨g, cap, cur, h1, h2, h3, h4⟩
  · exact Or.inl h
  · exact Or.inr ⟨g, cap, cur, h1, h2, (Below.heap_setCell w ⟨M, j, none⟩ x g (by show g ≠ M; omega)).trans h3, h4⟩
theorem Rd.new (w : World) (k : K) (s : ByteArray) : Rd (w.alloc (.cells #[.int .i64 k.st, .string k.line, .int .i64 k.left, .int .i64 k.size, .string s, .slice none 0 0] 140)) w.heap.size k s (.slice none 0 0) [] :=
  ⟨by rw [World.cell?_alloc_new]; rfl, by rw [World.cell?_alloc_new]; rfl, by rw [World.cell?_alloc_new]; rfl, by rw [World.cell?_alloc_new]; rfl, by rw [World.cell?_alloc_new]; rfl, by rw [World.cell?_alloc_new]; rfl, by simp, fun o => World.frozen?_alloc_new _ _ _ _, Own.nil _ _⟩

set_option maxRecDepth 100000 in
set_option maxHeartbeats 4000000 in
theorem feed_any (k : K) (s : ByteArray) (w : World) (hl : k.line.size ≤ 1000) (hs : s.size ≤ 1000000) :
    Calls Tryz.prog 97 #[k.v, .string s] w fun e w' => e = .returned (fdV k s.data.toList) ∧ Below w.heap.size w w' := by
  have hX : Four ((w.alloc (.cells #[.int .i64 k.st, .string k.line, .int .i64 k.left, .int .i64 k.size] 30)).alloc (.cells #[.int .i64 0, .string ⟨#[]⟩, .int .i64 0, .int .i64 0] 30)) w.heap.size k := (Four.new w k).below ((Below.refl _ _).alloc (Nat.le_refl _) _)
  have hY : Four ((w.alloc (.cells #[.int .i64 k.st, .string k.line, .int .i64 k.left, .int .i64 k.size] 30)).alloc (.cells #[.int .i64 0, .string ⟨#[]⟩, .int .i64 0, .int .i64 0] 30)) (w.heap.size + 1) k0 := by
    have := Four.new (w.alloc (.cells #[.int .i64 k.st, .string k.line, .int .i64 k.left, .int .i64 k.size] 30)) k0
    rwa [show (w.alloc (.cells #[.int .i64 k.st, .string k.line, .int .i64 k.left, .int .i64 k.size] 30)).heap.size = w.heap.size + 1 by simp] at this
  have hB : Below w.heap.size w ((w.alloc (.cells #[.int .i64 k.st, .string k.line, .int .i64 k.left, .int .i64 k.size] 30)).alloc (.cells #[.int .i64 0, .string ⟨#[]⟩, .int .i64 0, .int .i64 0] 30)) := ((Below.refl _ _).alloc (Nat.le_refl _) _).alloc (by simp) _
  have hcr := right_any k
  unfold K.v at hcr ⊢
  cases hrt : rtB k
  · have HV := hide (fdV_bad (k := k) (l := s.data.toList) (E := 1) (by decide) (by unfold fd; rw [hrt]; rfl))
    have HRT := hide hrt
    clear hrt
    go_enter Tryz.func97, Tryz.ntmps97
    go_wp2_with fail
    generalize World.alloc _ _ = W1 at hX hY hB ⊢
    refine (hcr _ (by omega)).mono ?_
    rintro e w1 ⟨rfl, hb1⟩
    rw [HRT.out]
    have hY1 := hY.below hb1
    have B1 := hB.trans (hb1.mono hB.size)
    have hZ := put4_four hY1 k0
    have c0 := hY1.c0
    have c1 := hY1.c1
    have c2 := hY1.c2
    have c3 := hY1.c3
    have fz := hY1.fz
    go_wp2_with fail
    have B2 := put4_below B1 (Nat.le_succ _) k0
    change bodyPost _ _ _ _ _ (put4 w1 (w.heap.size + 1) k0)
    clear c0 c1 c2 c3 fz
    generalize put4 w1 (w.heap.size + 1) k0 = W3 at hZ B2 ⊢
    have c0 := hZ.c0
    have c1 := hZ.c1
    have c2 := hZ.c2
    have c3 := hZ.c3
    refine bodyPost_ret (v := fdV k s.data.toList) (by rw [HV.out]; simp [results, Tryz.results97, go_sem, c0, c1, c2, c3, k0]) rfl ⟨rfl, ?_⟩
    exact B2
  · have hg := (rt_good k).1 hrt
    have HFD : Hid (fd k s.data.toList = run k s.data.toList) := by unfold Hid fd; rw [if_pos hrt]
    have HRT := hide hrt
    clear hrt
    go_enter Tryz.func97, Tryz.ntmps97
    go_wp2_with fail
    generalize World.alloc _ _ = W1 at hX hY hB ⊢
    refine (hcr _ (by omega)).mono ?_
    rintro e w1 ⟨rfl, hb1⟩
    rw [HRT.out]
    have hX1 := hX.below hb1
    have hY1 := hY.below hb1
    have B1 := hB.trans (hb1.mono hB.size)
    have hlt := hY1.lt
    have c0 := hX1.c0
    have c1 := hX1.c1
    have c2 := hX1.c2
    have c3 := hX1.c3
    clear hcr hb1 hX hY hB
    have hRn := Rd.new w1 k s
    have hBn : Below w1.heap.size w1 (w1.alloc (.cells #[.int .i64 k.st, .string k.line, .int .i64 k.left, .int .i64 k.size, .string s, .slice none 0 0] 140)) := (Below.refl _ _).alloc (Nat.le_refl _) _
    go_wp2_with fail
    generalize World.alloc _ _ = W2 at hRn hBn ⊢
    have hY2 := hY1.below hBn
    have B2 := B1.trans (hBn.mono B1.size)
    generalize hNN : w1.heap.size = N at *
    clear c0 c1 c2 c3 hX1 hY1 hBn B1 hNN
    go_loopw [9] (fun b wr => ∃ (kk : K) (r : ByteArray) (v : Value) (d : List UInt8), Fed W2 wr N k s kk r v d) (fun _ wr => restOf wr N)
    case atStart => exact ⟨k, s, _, [], hRn, Below.refl _ _, hg, by simp, (on_nil _).symm⟩
    case round =>
      obtain ⟨kk, r, v, d, hF⟩ := hrel
      have hR := hF.rd
      have c0 := hR.c0
      have c4 := hR.c4
      by_cases he : r.data.toList = []
      · have HE : Hid (r.data.toList = [] ∨ kk.st = 4) := Or.inl he
        have hem := empty_of he
        clear he
        have HQ : Hid (fd k s.data.toList = ⟨0, kk, d, r.data.toList⟩) := by
          unfold Hid
          rw [HFD.out, hF.eq, run_stop HE.out]
          unfold Rs.on
          rw [if_pos rfl, List.append_nil]
        have HV := hide (fdV_good HQ.out)
        rw [size_list, size_list] at HV
        have hcv := hR.ow
        have hsz := hF.sz
        have hYr := hY2.under (Nat.lt_of_succ_lt hlt |> fun _ => hlt) hF.be
        have BB := B2.trans (hF.be.mono (Nat.le_of_lt (Nat.lt_of_succ_lt hlt)))
        have d0 := hYr.c0
        have d1 := hYr.c1
        have d2 := hYr.c2
        have d3 := hYr.c3
        have dz := hYr.fz
        go_wp2_with fail
        refine wp_region_held_drew (S := (fun w' => Rd w' N kk r v d)) (by kernel_rfl) (hR.drew) (fun hHeld => ?_)
        refine wpAnyH_take (i := 0) (oi := _) (v := .pointer (some ⟨N, 0, none⟩)) rfl (by kernel_rfl) (by kernel_rfl) (by kernel_rfl) (fun _ _ _ h => h) (Or.inl ⟨by rfl, fun wS hSw => by go_simp⟩) (by first | trivial | assumption) ?_
        simp only [Act.put, List.getElem_toArray, List.getElem_cons_zero, List.getElem_cons_succ, List.setIfInBounds_toArray, List.set_cons_zero, List.set_cons_succ]
        refine wpAnyH_take (i := 1) (oi := _) (v := .agg #[.int .i64 kk.st, .string kk.line, .int .i64 kk.left, .int .i64 kk.size]) rfl (by kernel_rfl) (by kernel_rfl) (by kernel_rfl) (fun _ _ _ h => h) (Or.inl ⟨by kernel_rfl, fun wS hSw => by have l0 := hSw.c0; have l1 := hSw.c1; have l2 := hSw.c2; have l3 := hSw.c3; go_simp⟩) (by first | trivial | assumption) ?_
        simp only [Act.put, List.getElem_toArray, List.getElem_cons_zero, List.getElem_cons_succ, List.setIfInBounds_toArray, List.set_cons_zero, List.set_cons_succ]
        refine wpAnyH_take (i := 2) (oi := _) (v := .pointer (some ⟨N, 5, none⟩)) rfl (by kernel_rfl) (by kernel_rfl) (by kernel_rfl) (fun _ _ _ h => h) (Or.inl ⟨by rfl, fun wS hSw => by go_simp⟩) (by first | trivial | assumption) ?_
        simp only [Act.put, List.getElem_toArray, List.getElem_cons_zero, List.getElem_cons_succ, List.setIfInBounds_toArray, List.set_cons_zero, List.set_cons_succ]
        refine wpAnyH_take (i := 3) (oi := _) (v := v) rfl (by kernel_rfl) (by kernel_rfl) (by kernel_rfl) (fun _ _ _ h => h) (Or.inl ⟨by kernel_rfl, fun wS hSw => by have l5 := hSw.c5; go_simp⟩) (by first | trivial | assumption) ?_
        simp only [Act.put, List.getElem_toArray, List.getElem_cons_zero, List.getElem_cons_succ, List.setIfInBounds_toArray, List.set_cons_zero, List.set_cons_succ]
        refine wpAnyH_take (i := 4) (oi := _) (v := .string (bs d)) rfl (by kernel_rfl) (by kernel_rfl) (by kernel_rfl) (fun _ _ _ h => h) (Or.inl ⟨by kernel_rfl, fun wS hSw => by have l5 := conv_own hSw.ow; go_simp⟩) (by first | trivial | assumption) ?_
        simp only [Act.put, List.getElem_toArray, List.getElem_cons_zero, List.getElem_cons_succ, List.setIfInBounds_toArray, List.set_cons_zero, List.set_cons_succ]
        refine wpAnyH_take (i := 5) (oi := _) (v := .string s) rfl (by kernel_rfl) (by kernel_rfl) (by kernel_rfl) (fun _ _ _ h => h) (Or.inl ⟨by rfl, fun wS hSw => by go_simp⟩) (by first | trivial | assumption) ?_
        simp only [Act.put, List.getElem_toArray, List.getElem_cons_zero, List.getElem_cons_succ, List.setIfInBounds_toArray, List.set_cons_zero, List.set_cons_succ]
        refine wpAnyH_take (i := 6) (oi := _) (v := .int .i64 (s.size : Int)) rfl (by kernel_rfl) (by kernel_rfl) (by kernel_rfl) (fun _ _ _ h => h) (Or.inl ⟨by rfl, fun wS hSw => by go_simp⟩) (by first | trivial | assumption) ?_
        simp only [Act.put, List.getElem_toArray, List.getElem_cons_zero, List.getElem_cons_succ, List.setIfInBounds_toArray, List.set_cons_zero, List.set_cons_succ]
        refine wpAnyH_take (i := 7) (oi := _) (v := .pointer (some ⟨N, 4, none⟩)) rfl (by kernel_rfl) (by kernel_rfl) (by kernel_rfl) (fun _ _ _ h => h) (Or.inl ⟨by rfl, fun wS hSw => by go_simp⟩) (by first | trivial | assumption) ?_
        simp only [Act.put, List.getElem_toArray, List.getElem_cons_zero, List.getElem_cons_succ, List.setIfInBounds_toArray, List.set_cons_zero, List.set_cons_succ]
        refine wpAnyH_take (i := 8) (oi := _) (v := .string r) rfl (by kernel_rfl) (by kernel_rfl) (by kernel_rfl) (fun _ _ _ h => h) (Or.inl ⟨by kernel_rfl, fun wS hSw => by have l4 := hSw.c4; go_simp⟩) (by first | trivial | assumption) ?_
        simp only [Act.put, List.getElem_toArray, List.getElem_cons_zero, List.getElem_cons_succ, List.setIfInBounds_toArray, List.set_cons_zero, List.set_cons_succ]
        refine wpAnyH_take (i := 9) (oi := _) (v := .int .i64 (r.size : Int)) rfl (by kernel_rfl) (by kernel_rfl) (by kernel_rfl) (fun _ _ _ h => h) (Or.inl ⟨by rfl, fun wS hSw => by go_simp⟩) (by first | trivial | assumption) ?_
        simp only [Act.put, List.getElem_toArray, List.getElem_cons_zero, List.getElem_cons_succ, List.setIfInBounds_toArray, List.set_cons_zero, List.set_cons_succ]
        refine wpAnyH_take (i := 10) (oi := _) (v := .int .i64 ((s.size : Int) - (r.size : Int))) rfl (by kernel_rfl) (by kernel_rfl) (by kernel_rfl) (fun _ _ _ h => h) (Or.inl ⟨by rfl, fun wS hSw => by go_simp; exact i64_wrap_id _ (by omega) (by omega)⟩) (by first | trivial | assumption) ?_
        simp only [Act.put, List.getElem_toArray, List.getElem_cons_zero, List.getElem_cons_succ, List.setIfInBounds_toArray, List.set_cons_zero, List.set_cons_succ]
        refine wpAnyH_ready (rs := [11]) (by kernel_rfl) (by simp) ?_
        refine AllReadyH.cons (o := _) rfl (fun K hK => ?_) AllReadyH.nil
        go_simp
        refine hK.out _ _ ((((hHeld.other _ _ _ hlt).other _ _ _ hlt).other _ _ _ hlt).other _ _ _ hlt) (fun hHeld => ?_)
        clear hK K
        refine wpAnyH_ready (rs := [12]) (by kernel_rfl) (by simp) ?_
        refine AllReadyH.cons (o := _) rfl (fun K hK => ?_) AllReadyH.nil
        go_simp
        refine hK.out _ _ (hHeld) (fun hHeld => ?_)
        clear hK K
        refine wpAnyH_ready (rs := [13]) (by kernel_rfl) (by simp) ?_
        refine AllReadyH.cons (o := _) rfl (fun K hK => ?_) AllReadyH.nil
        go_simp
        refine hK.out _ _ (hHeld) (fun hHeld => ?_)
        clear hK K
        refine wpAnyH_ready (rs := [14]) (by kernel_rfl) (by simp) ?_
        refine AllReadyH.cons (o := _) rfl (fun K hK => ?_) AllReadyH.nil
        go_simp
        refine hK.out _ _ (hHeld) (fun hHeld => ?_)
        clear hK K
        refine wpAnyH_done (by kernel_rfl) ?_ _
        go_wp2_with fail
        have hZ := put4_four (Four.drew hYr) kk
        have BZ := put4_below (below_drew BB) (Nat.le_succ _) kk
        change bodyPost _ _ _ _ _ (put4 wr.drew (w.heap.size + 1) kk)
        clear d0 d1 d2 d3 dz
        generalize put4 wr.drew (w.heap.size + 1) kk = W3 at hZ BZ ⊢
        have d0 := hZ.c0
        have d1 := hZ.c1
        have d2 := hZ.c2
        have d3 := hZ.c3
        refine bodyPost_ret (v := fdV k s.data.toList) (by rw [HV.out]; simp [results, Tryz.results97, go_sem, d0, d1, d2, d3]) rfl ⟨rfl, ?_⟩
        exact BZ
      have hem := empty_not he
      by_cases h4 : kk.st = 4
      · have HE : Hid (r.data.toList = [] ∨ kk.st = 4) := Or.inr h4
        have hd4 : (kk.st != 4) = false := by rw [h4]; rfl
        clear he h4
        have HQ : Hid (fd k s.data.toList = ⟨0, kk, d, r.data.toList⟩) := by
          unfold Hid
          rw [HFD.out, hF.eq, run_stop HE.out]
          unfold Rs.on
          rw [if_pos rfl, List.append_nil]
        have HV := hide (fdV_good HQ.out)
        rw [size_list, size_list] at HV
        have hcv := hR.ow
        have hsz := hF.sz
        have hYr := hY2.under (Nat.lt_of_succ_lt hlt |> fun _ => hlt) hF.be
        have BB := B2.trans (hF.be.mono (Nat.le_of_lt (Nat.lt_of_succ_lt hlt)))
        have d0 := hYr.c0
        have d1 := hYr.c1
        have d2 := hYr.c2
        have d3 := hYr.c3
        have dz := hYr.fz
        go_wp2_with fail
        refine wp_region_held_drew (S := (fun w' => Rd w' N kk r v d)) (by kernel_rfl) (hR.drew) (fun hHeld => ?_)
        refine wpAnyH_take (i := 0) (oi := _) (v := .pointer (some ⟨N, 0, none⟩)) rfl (by kernel_rfl) (by kernel_rfl) (by kernel_rfl) (fun _ _ _ h => h) (Or.inl ⟨by rfl, fun wS hSw => by go_simp⟩) (by first | trivial | assumption) ?_
        simp only [Act.put, List.getElem_toArray, List.getElem_cons_zero, List.getElem_cons_succ, List.setIfInBounds_toArray, List.set_cons_zero, List.set_cons_succ]
        refine wpAnyH_take (i := 1) (oi := _) (v := .agg #[.int .i64 kk.st, .string kk.line, .int .i64 kk.left, .int .i64 kk.size]) rfl (by kernel_rfl) (by kernel_rfl) (by kernel_rfl) (fun _ _ _ h => h) (Or.inl ⟨by kernel_rfl, fun wS hSw => by have l0 := hSw.c0; have l1 := hSw.c1; have l2 := hSw.c2; have l3 := hSw.c3; go_simp⟩) (by first | trivial | assumption) ?_
        simp only [Act.put, List.getElem_toArray, List.getElem_cons_zero, List.getElem_cons_succ, List.setIfInBounds_toArray, List.set_cons_zero, List.set_cons_succ]
        refine wpAnyH_take (i := 2) (oi := _) (v := .pointer (some ⟨N, 5, none⟩)) rfl (by kernel_rfl) (by kernel_rfl) (by kernel_rfl) (fun _ _ _ h => h) (Or.inl ⟨by rfl, fun wS hSw => by go_simp⟩) (by first | trivial | assumption) ?_
        simp only [Act.put, List.getElem_toArray, List.getElem_cons_zero, List.getElem_cons_succ, List.setIfInBounds_toArray, List.set_cons_zero, List.set_cons_succ]
        refine wpAnyH_take (i := 3) (oi := _) (v := v) rfl (by kernel_rfl) (by kernel_rfl) (by kernel_rfl) (fun _ _ _ h => h) (Or.inl ⟨by kernel_rfl, fun wS hSw => by have l5 := hSw.c5; go_simp⟩) (by first | trivial | assumption) ?_
        simp only [Act.put, List.getElem_toArray, List.getElem_cons_zero, List.getElem_cons_succ, List.setIfInBounds_toArray, List.set_cons_zero, List.set_cons_succ]
        refine wpAnyH_take (i := 4) (oi := _) (v := .string (bs d)) rfl (by kernel_rfl) (by kernel_rfl) (by kernel_rfl) (fun _ _ _ h => h) (Or.inl ⟨by kernel_rfl, fun wS hSw => by have l5 := conv_own hSw.ow; go_simp⟩) (by first | trivial | assumption) ?_
        simp only [Act.put, List.getElem_toArray, List.getElem_cons_zero, List.getElem_cons_succ, List.setIfInBounds_toArray, List.set_cons_zero, List.set_cons_succ]
        refine wpAnyH_take (i := 5) (oi := _) (v := .string s) rfl (by kernel_rfl) (by kernel_rfl) (by kernel_rfl) (fun _ _ _ h => h) (Or.inl ⟨by rfl, fun wS hSw => by go_simp⟩) (by first | trivial | assumption) ?_
        simp only [Act.put, List.getElem_toArray, List.getElem_cons_zero, List.getElem_cons_succ, List.setIfInBounds_toArray, List.set_cons_zero, List.set_cons_succ]
        refine wpAnyH_take (i := 6) (oi := _) (v := .int .i64 (s.size : Int)) rfl (by kernel_rfl) (by kernel_rfl) (by kernel_rfl) (fun _ _ _ h => h) (Or.inl ⟨by rfl, fun wS hSw => by go_simp⟩) (by first | trivial | assumption) ?_
        simp only [Act.put, List.getElem_toArray, List.getElem_cons_zero, List.getElem_cons_succ, List.setIfInBounds_toArray, List.set_cons_zero, List.set_cons_succ]
        refine wpAnyH_take (i := 7) (oi := _) (v := .pointer (some ⟨N, 4, none⟩)) rfl (by kernel_rfl) (by kernel_rfl) (by kernel_rfl) (fun _ _ _ h => h) (Or.inl ⟨by rfl, fun wS hSw => by go_simp⟩) (by first | trivial | assumption) ?_
        simp only [Act.put, List.getElem_toArray, List.getElem_cons_zero, List.getElem_cons_succ, List.setIfInBounds_toArray, List.set_cons_zero, List.set_cons_succ]
        refine wpAnyH_take (i := 8) (oi := _) (v := .string r) rfl (by kernel_rfl) (by kernel_rfl) (by kernel_rfl) (fun _ _ _ h => h) (Or.inl ⟨by kernel_rfl, fun wS hSw => by have l4 := hSw.c4; go_simp⟩) (by first | trivial | assumption) ?_
        simp only [Act.put, List.getElem_toArray, List.getElem_cons_zero, List.getElem_cons_succ, List.setIfInBounds_toArray, List.set_cons_zero, List.set_cons_succ]
        refine wpAnyH_take (i := 9) (oi := _) (v := .int .i64 (r.size : Int)) rfl (by kernel_rfl) (by kernel_rfl) (by kernel_rfl) (fun _ _ _ h => h) (Or.inl ⟨by rfl, fun wS hSw => by go_simp⟩) (by first | trivial | assumption) ?_
        simp only [Act.put, List.getElem_toArray, List.getElem_cons_zero, List.getElem_cons_succ, List.setIfInBounds_toArray, List.set_cons_zero, List.set_cons_succ]
        refine wpAnyH_take (i := 10) (oi := _) (v := .int .i64 ((s.size : Int) - (r.size : Int))) rfl (by kernel_rfl) (by kernel_rfl) (by kernel_rfl) (fun _ _ _ h => h) (Or.inl ⟨by rfl, fun wS hSw => by go_simp; exact i64_wrap_id _ (by omega) (by omega)⟩) (by first | trivial | assumption) ?_
        simp only [Act.put, List.getElem_toArray, List.getElem_cons_zero, List.getElem_cons_succ, List.setIfInBounds_toArray, List.set_cons_zero, List.set_cons_succ]
        refine wpAnyH_ready (rs := [11]) (by kernel_rfl) (by simp) ?_
        refine AllReadyH.cons (o := _) rfl (fun K hK => ?_) AllReadyH.nil
        go_simp
        refine hK.out _ _ ((((hHeld.other _ _ _ hlt).other _ _ _ hlt).other _ _ _ hlt).other _ _ _ hlt) (fun hHeld => ?_)
        clear hK K
        refine wpAnyH_ready (rs := [12]) (by kernel_rfl) (by simp) ?_
        refine AllReadyH.cons (o := _) rfl (fun K hK => ?_) AllReadyH.nil
        go_simp
        refine hK.out _ _ (hHeld) (fun hHeld => ?_)
        clear hK K
        refine wpAnyH_ready (rs := [13]) (by kernel_rfl) (by simp) ?_
        refine AllReadyH.cons (o := _) rfl (fun K hK => ?_) AllReadyH.nil
        go_simp
        refine hK.out _ _ (hHeld) (fun hHeld => ?_)
        clear hK K
        refine wpAnyH_ready (rs := [14]) (by kernel_rfl) (by simp) ?_
        refine AllReadyH.cons (o := _) rfl (fun K hK => ?_) AllReadyH.nil
        go_simp
        refine hK.out _ _ (hHeld) (fun hHeld => ?_)
        clear hK K
        refine wpAnyH_done (by kernel_rfl) ?_ _
        go_wp2_with fail
        have hZ := put4_four (Four.drew hYr) kk
        have BZ := put4_below (below_drew BB) (Nat.le_succ _) kk
        change bodyPost _ _ _ _ _ (put4 wr.drew (w.heap.size + 1) kk)
        clear d0 d1 d2 d3 dz
        generalize put4 wr.drew (w.heap.size + 1) kk = W3 at hZ BZ ⊢
        have d0 := hZ.c0
        have d1 := hZ.c1
        have d2 := hZ.c2
        have d3 := hZ.c3
        refine bodyPost_ret (v := fdV k s.data.toList) (by rw [HV.out]; simp [results, Tryz.results97, go_sem, d0, d1, d2, d3]) rfl ⟨rfl, ?_⟩
        exact BZ
      have hd4 : (kk.st != 4) = true := by simpa using h4
      have hr0 : 0 < r.size := by rw [← size_list]; exact List.length_pos_iff.2 he
      have hsz := hF.sz
      have hcn := readOn_any hR hF.gk h4 hr0 (by omega) (by omega)
      have HX : Hid (run k s.data.toList = (run kk r.data.toList).on d) := hF.eq
      have hYr := hY2.under hlt hF.be
      have hFB := hF.be
      have HRS := hide hR.rest
      clear he h4
      go_wp2_with fail
      refine hcn.mono ?_
      rintro e w2 ⟨E, rfl, hN⟩
      by_cases hE : E = 0
      · subst hE
        obtain ⟨k', r', v', d', hR', hg', hz', hq', he'⟩ := hN.go rfl
        have HF : Hid (Fed W2 w2 N k s k' r' v' (d ++ d')) := ⟨hR', hFB.trans hN.be, hg', by rw [List.length_append]; omega, by rw [HX.out, he', on_on]⟩
        have HR2 := hide hR'.rest
        clear hR' he' hN hR hF hYr hFB
        go_wp2_with fail
        refine ⟨⟨k', r', v', d ++ d', HF.out⟩, ?_⟩
        rw [HR2.out, HRS.out]
        exact hz'
      · have hE0 : ((E : Int) != 0) = true := by simp; exact hE
        have HV := hide (fdV_bad hE (show fd k s.data.toList = bad E by rw [HFD.out, HX.out, hN.no hE, on_bad hE]))
        have hY3 := hYr.under hlt hN.be
        have BB := B2.trans ((hFB.trans hN.be).mono (Nat.le_of_lt (Nat.lt_of_succ_lt hlt)))
        have d0 := hY3.c0
        have d1 := hY3.c1
        have d2 := hY3.c2
        have d3 := hY3.c3
        have dz := hY3.fz
        clear hN hR hF hYr hFB
        go_wp2_with fail
        have hZ := put4_four hY3 k0
        have BZ := put4_below BB (Nat.le_succ _) k0
        change bodyPost _ _ _ _ _ (put4 w2 (w.heap.size + 1) k0)
        clear d0 d1 d2 d3 dz
        generalize put4 w2 (w.heap.size + 1) k0 = W3 at hZ BZ ⊢
        have d0 := hZ.c0
        have d1 := hZ.c1
        have d2 := hZ.c2
        have d3 := hZ.c3
        refine bodyPost_ret (v := fdV k s.data.toList) (by rw [HV.out]; simp [results, Tryz.results97, go_sem, d0, d1, d2, d3, k0]) rfl ⟨rfl, ?_⟩
        exact BZ

end Go.Proofs.YtmpijlaidnhpnaaGreat.Ck
