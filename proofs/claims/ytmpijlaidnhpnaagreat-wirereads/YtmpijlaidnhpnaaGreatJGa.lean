/- What is said, and bodies, in memory; the walk of what one length says. The walks of what a saying becomes, and of what several lengths say. The walk of what several lengths say. -/
import Derived.Test.YtmpijlaidnhpnaaGreatJMt
import Derived.Test.YtmpijlaidnhpnaaGreatJNd
import Derived.Deep.RegionHeld
namespace Go.Proofs.YtmpijlaidnhpnaaGreat
set_option linter.unusedVariables false
set_option linter.unusedSimpArgs false
set_option maxRecDepth 100000
open Go.RowKit

/-- What is said lies in block N. -/
structure Th (w : World) (N : Nat) (k : Nat) (z : Nat) (e : Nat) : Prop where
  c0 : w.cell? ⟨N, 0, none⟩ = some (.int .i64 (k : Int))
  c1 : w.cell? ⟨N, 1, none⟩ = some (.int .u64 (z : Int))
  c2 : w.cell? ⟨N, 2, none⟩ = some (.int .i64 (e : Int))
  lt : N < w.heap.size
  fz : ∀ o, w.frozen? ⟨N, o, none⟩ = false
theorem Th.below {w w' : World} {N : Nat} {k : Nat} {z : Nat} {e : Nat} (h : Th w N k z e) (hb : Below w.heap.size w w') : Th w' N k z e := by
  have hc : ∀ k, w'.cell? ⟨N, k, none⟩ = w.cell? ⟨N, k, none⟩ := fun k => hb.cell (p := ⟨N, k, none⟩) h.lt
  exact ⟨(hc 0).trans h.c0, (hc 1).trans h.c1, (hc 2).trans h.c2, Nat.lt_of_lt_of_le h.lt hb.size, fun o => (hb.frozen (p := ⟨N, o, none⟩) h.lt).trans (h.fz o)⟩
theorem Th.new (w : World) (k : Nat) (z : Nat) (e : Nat) : Th (w.alloc (.cells #[.int .i64 (k : Int), .int .u64 (z : Int), .int .i64 (e : Int)] 105)) w.heap.size k z e :=
  ⟨by rw [World.cell?_alloc_new]; rfl, by rw [World.cell?_alloc_new]; rfl, by rw [World.cell?_alloc_new]; rfl, by simp, fun o => World.frozen?_alloc_new _ _ _ _⟩
theorem Th.alloc {w : World} {N : Nat} {k : Nat} {z : Nat} {e : Nat} (h : Th w N k z e) (o : Obj) : Th (w.alloc o) N k z e := h.below ((Below.refl _ _).alloc (Nat.le_refl _) o)
theorem Th.drew {w : World} {N : Nat} {k : Nat} {z : Nat} {e : Nat} (h : Th w N k z e) : Th w.drew N k z e := ⟨h.c0, h.c1, h.c2, h.lt, h.fz⟩
theorem Th.other {w : World} {N : Nat} {k : Nat} {z : Nat} {e : Nat} (h : Th w N k z e) (M q : Nat) (v : Value) (hM : M ≠ N) : Th (w.setCell ⟨M, q, none⟩ v) N k z e := by
  have hc : ∀ j, (w.setCell ⟨M, q, none⟩ v).cell? ⟨N, j, none⟩ = w.cell? ⟨N, j, none⟩ := fun j => World.cell?_setCell_other _ _ _ _ (by simp [Ne.symm hM])
  exact ⟨(hc 0).trans h.c0, (hc 1).trans h.c1, (hc 2).trans h.c2, by simpa using h.lt, fun o => by rw [World.frozen?_setCell]; exact h.fz o⟩
def put3 (w : World) (N : Nat) (k : Nat) (z : Nat) (e : Nat) : World := ((w.setCell ⟨N, 0, none⟩ (.int .i64 (k : Int))).setCell ⟨N, 1, none⟩ (.int .u64 (z : Int))).setCell ⟨N, 2, none⟩ (.int .i64 (e : Int))
theorem put3_below {B : Nat} {w w' : World} (h : Below B w w') {N : Nat} (hN : B ≤ N) (k : Nat) (z : Nat) (e : Nat) : Below B w (put3 w' N k z e) := ((h.setCell hN _).setCell hN _).setCell hN _

/-- A body lies in block N. -/
structure Tw (w : World) (N : Nat) (k : Int) (z : Int) : Prop where
  c0 : w.cell? ⟨N, 0, none⟩ = some (.int .i64 k)
  c1 : w.cell? ⟨N, 1, none⟩ = some (.int .i64 z)
  lt : N < w.heap.size
  fz : ∀ o, w.frozen? ⟨N, o, none⟩ = false
theorem Tw.below {w w' : World} {N : Nat} {k : Int} {z : Int} (h : Tw w N k z) (hb : Below w.heap.size w w') : Tw w' N k z := by
  have hc : ∀ k, w'.cell? ⟨N, k, none⟩ = w.cell? ⟨N, k, none⟩ := fun k => hb.cell (p := ⟨N, k, none⟩) h.lt
  exact ⟨(hc 0).trans h.c0, (hc 1).trans h.c1, Nat.lt_of_lt_of_le h.lt hb.size, fun o => (hb.frozen (p := ⟨N, o, none⟩) h.lt).trans (h.fz o)⟩
theorem Tw.new (w : World) (k : Int) (z : Int) : Tw (w.alloc (.cells #[.int .i64 k, .int .i64 z] 28)) w.heap.size k z :=
  ⟨by rw [World.cell?_alloc_new]; rfl, by rw [World.cell?_alloc_new]; rfl, by simp, fun o => World.frozen?_alloc_new _ _ _ _⟩
theorem Tw.alloc {w : World} {N : Nat} {k : Int} {z : Int} (h : Tw w N k z) (o : Obj) : Tw (w.alloc o) N k z := h.below ((Below.refl _ _).alloc (Nat.le_refl _) o)
theorem Tw.drew {w : World} {N : Nat} {k : Int} {z : Int} (h : Tw w N k z) : Tw w.drew N k z := ⟨h.c0, h.c1, h.lt, h.fz⟩
theorem Tw.other {w : World} {N : Nat} {k : Int} {z : Int} (h : Tw w N k z) (M q : Nat) (v : Value) (hM : M ≠ N) : Tw (w.setCell ⟨M, q, none⟩ v) N k z := by
  have hc : ∀ j, (w.setCell ⟨M, q, none⟩ v).cell? ⟨N, j, none⟩ = w.cell? ⟨N, j, none⟩ := fun j => World.cell?_setCell_other _ _ _ _ (by simp [Ne.symm hM])
  exact ⟨(hc 0).trans h.c0, (hc 1).trans h.c1, by simpa using h.lt, fun o => by rw [World.frozen?_setCell]; exact h.fz o⟩
def put2 (w : World) (N : Nat) (k : Int) (z : Int) : World := (w.setCell ⟨N, 0, none⟩ (.int .i64 k)).setCell ⟨N, 1, none⟩ (.int .i64 z)
theorem put2_below {B : Nat} {w w' : World} (h : Below B w w') {N : Nat} (hN : B ≤ N) (k : Int) (z : Int) : Below B w (put2 w' N k z) := (h.setCell hN _).setCell hN _

set_option maxHeartbeats 1000000 in
theorem lengthSays_any (s : ByteArray) (w : World) (hs : s.size ≤ maxLen) :
    Calls Tryz.prog 119 #[.string s] w fun e w' => e = .returned (syV (lsF s)) ∧ Below w.heap.size w w' := by
  have hrd := fun w => readDec_any s w hs
  have hle := rdN_le 10 s.data.toList
  have hn0 : Th (w.alloc (.cells #[.int .i64 0, .int .u64 0, .int .i64 0] 105)) w.heap.size 0 0 0 := Th.new w 0 0 0
  have hbn := one_alloc w #[.int .i64 0, .int .u64 0, .int .i64 0] 105
  rcases ls_three s with ⟨h0, h1⟩ | ⟨h0, h1⟩ | ⟨h0, h1⟩
  all_goals
    have HR := hide h1
    rw [h0] at hrd
    clear h0 h1
    generalize rdN 10 s.data.toList = n at hrd hle HR
    go_enter Tryz.func119, Tryz.ntmps119
    go_wp2_with fail
    generalize w.alloc _ = W1 at hn0 hbn ⊢
    refine (hrd _).mono ?_
    rintro e w1 ⟨rfl, hb1⟩
    have hN := hn0.below hb1
    have hB := hbn.trans (hb1.mono hbn.size)
    obtain ⟨c0, c1, c2, -, cf⟩ := id hN
    go_wp2_with fail
  · refine bodyPost_ret (v := syV (1, n, 0)) (by simp [results, Tryz.results119, go_sem, syV, c0, c1, c2, cf]) rfl ⟨by rw [HR.out], ?_⟩
    exact put3_below hB (Nat.le_refl _) 1 n 0
  · refine bodyPost_ret (v := syV (0, 0, 32)) (by simp [results, Tryz.results119, go_sem, syV, c0, c1, c2, cf]) rfl ⟨by rw [HR.out], ?_⟩
    exact put3_below hB (Nat.le_refl _) 0 0 32
  · refine bodyPost_ret (v := syV (0, 0, 2)) (by simp [results, Tryz.results119, go_sem, syV, c0, c1, c2, cf]) rfl ⟨by rw [HR.out], ?_⟩
    exact put3_below hB (Nat.le_refl _) 0 0 2

end Go.Proofs.YtmpijlaidnhpnaaGreat

namespace Go.Proofs.YtmpijlaidnhpnaaGreat
set_option linter.unusedVariables false
set_option linter.unusedSimpArgs false
set_option maxRecDepth 100000
open Go.RowKit

theorem i64_fits {z : Nat} (h : z ≤ 1099511627776) : IntKind.i64.wrap (z : Int) = z := by simp [IntKind.wrap, IntKind.bits, IntKind.signed]; omega

set_option maxHeartbeats 2000000 in
theorem orElse_any (k z e : Nat) (kind : Int) (w : World) (hz : z ≤ 1099511627776) :
    Calls Tryz.prog 71 #[syV (k, z, e), .int .i64 kind] w fun en w' => en = .returned (anV (elseF (k, z, e) kind)) ∧ Below w.heap.size w w' := by
  have hT : Th ((w.alloc (.cells #[.int .i64 (k : Int), .int .u64 (z : Int), .int .i64 (e : Int)] 105)).alloc (.cells #[.int .i64 0, .int .i64 0] 28)) w.heap.size k z e := (Th.new w k z e).alloc _
  have hW : Tw ((w.alloc (.cells #[.int .i64 (k : Int), .int .u64 (z : Int), .int .i64 (e : Int)] 105)).alloc (.cells #[.int .i64 0, .int .i64 0] 28)) (w.heap.size + 1) 0 0 := by
    have := Tw.new (w.alloc (.cells #[.int .i64 (k : Int), .int .u64 (z : Int), .int .i64 (e : Int)] 105)) 0 0
    rwa [show (w.alloc (.cells #[.int .i64 (k : Int), .int .u64 (z : Int), .int .i64 (e : Int)] 105)).heap.size = w.heap.size + 1 by simp] at this
  have hB : Below w.heap.size w ((w.alloc (.cells #[.int .i64 (k : Int), .int .u64 (z : Int), .int .i64 (e : Int)] 105)).alloc (.cells #[.int .i64 0, .int .i64 0] 28)) := (one_alloc w _ _).alloc (by simp) _
  by_cases h0 : (k, z, e) = (0, 0, 0)
  · have HR := hide (else_no (k := kind) h0)
    obtain ⟨rfl, h1⟩ := Prod.mk.inj h0
    obtain ⟨rfl, rfl⟩ := Prod.mk.inj h1
    clear h0 h1
    unfold syV
    go_enter Tryz.func71, Tryz.ntmps71
    go_wp2_with fail
    exact bodyPost_ret (v := anV (kind, 0, 0)) (by simp [results, Tryz.results71, go_sem, anV]) rfl ⟨by rw [HR.out], (one_alloc w _ _).alloc (by simp) _⟩
  · have HR := hide (else_yes (k := kind) h0)
    have hzw := i64_fits hz
    have hw0 : IntKind.i64.wrap 0 = 0 := by decide
    by_cases hk : k = 0
    · subst hk
      by_cases hz0 : z = 0
      · subst hz0
        have he : e ≠ 0 := fun g => h0 (by rw [g])
        have heb : ((e : Int) == 0) = false := by simpa using he
        clear h0
        have hT' := hide hT
        have hB' := hide hB
        have hW' := hide hW
        clear hT hB hW
        unfold syV
        go_enter Tryz.func71, Tryz.ntmps71
        go_wp2_with fail
        generalize World.alloc _ _ = W1 at hT' hB' hW' ⊢
        refine wp_region_held_drew (S := (fun w' => Th w' w.heap.size 0 0 e)) (by kernel_rfl) (hT'.out.drew) (fun hHeld => ?_)
        refine wpAnyH_take (i := 0) (oi := _) (v := .pointer (some ⟨w.heap.size, 0, none⟩)) rfl (by kernel_rfl) (by kernel_rfl) (by kernel_rfl) (fun _ _ _ h => h) (Or.inl ⟨by rfl, fun wS hSw => by go_simp⟩) (by first | trivial | assumption) ?_
        simp only [Act.put, List.getElem_toArray, List.getElem_cons_zero, List.getElem_cons_succ, List.setIfInBounds_toArray, List.set_cons_zero, List.set_cons_succ]
        refine wpAnyH_take (i := 1) (oi := _) (v := .int .i64 (0 : Nat)) rfl (by kernel_rfl) (by kernel_rfl) (by kernel_rfl) (fun _ _ _ h => h) (Or.inl ⟨by kernel_rfl, fun wS hSw => by have l0 := hSw.c0; go_simp⟩) (by first | trivial | assumption) ?_
        simp only [Act.put, List.getElem_toArray, List.getElem_cons_zero, List.getElem_cons_succ, List.setIfInBounds_toArray, List.set_cons_zero, List.set_cons_succ]
        refine wpAnyH_take (i := 2) (oi := _) (v := .pointer (some ⟨w.heap.size, 1, none⟩)) rfl (by kernel_rfl) (by kernel_rfl) (by kernel_rfl) (fun _ _ _ h => h) (Or.inl ⟨by rfl, fun wS hSw => by go_simp⟩) (by first | trivial | assumption) ?_
        simp only [Act.put, List.getElem_toArray, List.getElem_cons_zero, List.getElem_cons_succ, List.setIfInBounds_toArray, List.set_cons_zero, List.set_cons_succ]
        refine wpAnyH_take (i := 3) (oi := _) (v := .int .u64 (0 : Nat)) rfl (by kernel_rfl) (by kernel_rfl) (by kernel_rfl) (fun _ _ _ h => h) (Or.inl ⟨by kernel_rfl, fun wS hSw => by have l0 := hSw.c1; go_simp⟩) (by first | trivial | assumption) ?_
        simp only [Act.put, List.getElem_toArray, List.getElem_cons_zero, List.getElem_cons_succ, List.setIfInBounds_toArray, List.set_cons_zero, List.set_cons_succ]
        refine wpAnyH_take (i := 4) (oi := _) (v := .int .i64 (0 : Nat)) rfl (by kernel_rfl) (by kernel_rfl) (by kernel_rfl) (fun _ _ _ h => h) (Or.inl ⟨by rfl, fun wS hSw => by go_simp⟩) (by first | trivial | assumption) ?_
        simp only [Act.put, List.getElem_toArray, List.getElem_cons_zero, List.getElem_cons_succ, List.setIfInBounds_toArray, List.set_cons_zero, List.set_cons_succ]
        refine wpAnyH_take (i := 5) (oi := _) (v := .agg #[.int .i64 (0 : Nat), .int .i64 (0 : Nat)]) rfl (by kernel_rfl) (by kernel_rfl) (by kernel_rfl) (fun _ _ _ h => h) (Or.inl ⟨by rfl, fun wS hSw => by go_simp⟩) (by first | trivial | assumption) ?_
        simp only [Act.put, List.getElem_toArray, List.getElem_cons_zero, List.getElem_cons_succ, List.setIfInBounds_toArray, List.set_cons_zero, List.set_cons_succ]
        refine wpAnyH_take (i := 6) (oi := _) (v := .pointer (some ⟨w.heap.size, 2, none⟩)) rfl (by kernel_rfl) (by kernel_rfl) (by kernel_rfl) (fun _ _ _ h => h) (Or.inl ⟨by rfl, fun wS hSw => by go_simp⟩) (by first | trivial | assumption) ?_
        simp only [Act.put, List.getElem_toArray, List.getElem_cons_zero, List.getElem_cons_succ, List.setIfInBounds_toArray, List.set_cons_zero, List.set_cons_succ]
        refine wpAnyH_take (i := 7) (oi := _) (v := .int .i64 (e : Nat)) rfl (by kernel_rfl) (by kernel_rfl) (by kernel_rfl) (fun _ _ _ h => h) (Or.inl ⟨by kernel_rfl, fun wS hSw => by have l0 := hSw.c2; go_simp⟩) (by first | trivial | assumption) ?_
        simp only [Act.put, List.getElem_toArray, List.getElem_cons_zero, List.getElem_cons_succ, List.setIfInBounds_toArray, List.set_cons_zero, List.set_cons_succ]
        have y0 := hW'.out.c0
        have y1 := hW'.out.c1
        have yf := hW'.out.fz
        refine wpAnyH_ready (rs := [8]) (by kernel_rfl) (by simp) ?_
        refine AllReadyH.cons (o := _) rfl (fun K hK => ?_) AllReadyH.nil
        go_simp
        refine hK.out _ _ ((((hT'.out.other (w.heap.size + 1) 0 _ (by omega)).other (w.heap.size + 1) 1 _ (by omega)).drew)) (fun hHeld => ?_)
        clear hK K
        refine wpAnyH_ready (rs := [9]) (by kernel_rfl) (by simp) ?_
        refine AllReadyH.cons (o := _) rfl (fun K hK => ?_) AllReadyH.nil
        go_simp
        refine hK.out _ _ ((((hT'.out.other (w.heap.size + 1) 0 _ (by omega)).other (w.heap.size + 1) 1 _ (by omega)).drew)) (fun hHeld => ?_)
        clear hK K
        refine wpAnyH_done (by kernel_rfl) ?_ _
        go_wp2_with fail
        have y0' := hW'.out.c0
        refine bodyPost_ret (v := anV ((0 : Nat), (0 : Nat), (e : Nat))) (by simp [results, Tryz.results71, go_sem, anV, y0, y1, yf]) rfl ⟨by rw [HR.out], ?_⟩
        exact put2_below hB'.out.drew (by omega) _ _
      · have heb : ((z : Int) == 0) = false := by simpa using hz0
        clear h0
        have hT' := hide hT
        have hB' := hide hB
        have hW' := hide hW
        clear hT hB hW
        unfold syV
        go_enter Tryz.func71, Tryz.ntmps71
        go_wp2_with fail
        generalize World.alloc _ _ = W1 at hT' hB' hW' ⊢
        refine wp_region_held_drew (S := (fun w' => Th w' w.heap.size 0 z e)) (by kernel_rfl) (hT'.out.drew) (fun hHeld => ?_)
        refine wpAnyH_take (i := 0) (oi := _) (v := .pointer (some ⟨w.heap.size, 0, none⟩)) rfl (by kernel_rfl) (by kernel_rfl) (by kernel_rfl) (fun _ _ _ h => h) (Or.inl ⟨by rfl, fun wS hSw => by go_simp⟩) (by first | trivial | assumption) ?_
        simp only [Act.put, List.getElem_toArray, List.getElem_cons_zero, List.getElem_cons_succ, List.setIfInBounds_toArray, List.set_cons_zero, List.set_cons_succ]
        refine wpAnyH_take (i := 1) (oi := _) (v := .int .i64 (0 : Nat)) rfl (by kernel_rfl) (by kernel_rfl) (by kernel_rfl) (fun _ _ _ h => h) (Or.inl ⟨by kernel_rfl, fun wS hSw => by have l0 := hSw.c0; go_simp⟩) (by first | trivial | assumption) ?_
        simp only [Act.put, List.getElem_toArray, List.getElem_cons_zero, List.getElem_cons_succ, List.setIfInBounds_toArray, List.set_cons_zero, List.set_cons_succ]
        refine wpAnyH_take (i := 2) (oi := _) (v := .pointer (some ⟨w.heap.size, 1, none⟩)) rfl (by kernel_rfl) (by kernel_rfl) (by kernel_rfl) (fun _ _ _ h => h) (Or.inl ⟨by rfl, fun wS hSw => by go_simp⟩) (by first | trivial | assumption) ?_
        simp only [Act.put, List.getElem_toArray, List.getElem_cons_zero, List.getElem_cons_succ, List.setIfInBounds_toArray, List.set_cons_zero, List.set_cons_succ]
        refine wpAnyH_take (i := 3) (oi := _) (v := .int .u64 (z : Nat)) rfl (by kernel_rfl) (by kernel_rfl) (by kernel_rfl) (fun _ _ _ h => h) (Or.inl ⟨by kernel_rfl, fun wS hSw => by have l0 := hSw.c1; go_simp⟩) (by first | trivial | assumption) ?_
        simp only [Act.put, List.getElem_toArray, List.getElem_cons_zero, List.getElem_cons_succ, List.setIfInBounds_toArray, List.set_cons_zero, List.set_cons_succ]
        refine wpAnyH_take (i := 4) (oi := _) (v := .int .i64 (z : Nat)) rfl (by kernel_rfl) (by kernel_rfl) (by kernel_rfl) (fun _ _ _ h => h) (Or.inl ⟨by rfl, fun wS hSw => by go_simp⟩) (by first | trivial | assumption) ?_
        simp only [Act.put, List.getElem_toArray, List.getElem_cons_zero, List.getElem_cons_succ, List.setIfInBounds_toArray, List.set_cons_zero, List.set_cons_succ]
        refine wpAnyH_take (i := 5) (oi := _) (v := .agg #[.int .i64 (0 : Nat), .int .i64 (z : Nat)]) rfl (by kernel_rfl) (by kernel_rfl) (by kernel_rfl) (fun _ _ _ h => h) (Or.inl ⟨by rfl, fun wS hSw => by go_simp⟩) (by first | trivial | assumption) ?_
        simp only [Act.put, List.getElem_toArray, List.getElem_cons_zero, List.getElem_cons_succ, List.setIfInBounds_toArray, List.set_cons_zero, List.set_cons_succ]
        refine wpAnyH_take (i := 6) (oi := _) (v := .pointer (some ⟨w.heap.size, 2, none⟩)) rfl (by kernel_rfl) (by kernel_rfl) (by kernel_rfl) (fun _ _ _ h => h) (Or.inl ⟨by rfl, fun wS hSw => by go_simp⟩) (by first | trivial | assumption) ?_
        simp only [Act.put, List.getElem_toArray, List.getElem_cons_zero, List.getElem_cons_succ, List.setIfInBounds_toArray, List.set_cons_zero, List.set_cons_succ]
        refine wpAnyH_take (i := 7) (oi := _) (v := .int .i64 (e : Nat)) rfl (by kernel_rfl) (by kernel_rfl) (by kernel_rfl) (fun _ _ _ h => h) (Or.inl ⟨by kernel_rfl, fun wS hSw => by have l0 := hSw.c2; go_simp⟩) (by first | trivial | assumption) ?_
        simp only [Act.put, List.getElem_toArray, List.getElem_cons_zero, List.getElem_cons_succ, List.setIfInBounds_toArray, List.set_cons_zero, List.set_cons_succ]
        have y0 := hW'.out.c0
        have y1 := hW'.out.c1
        have yf := hW'.out.fz
        refine wpAnyH_ready (rs := [8]) (by kernel_rfl) (by simp) ?_
        refine AllReadyH.cons (o := _) rfl (fun K hK => ?_) AllReadyH.nil
        go_simp
        refine hK.out _ _ ((((hT'.out.other (w.heap.size + 1) 0 _ (by omega)).other (w.heap.size + 1) 1 _ (by omega)).drew)) (fun hHeld => ?_)
        clear hK K
        refine wpAnyH_ready (rs := [9]) (by kernel_rfl) (by simp) ?_
        refine AllReadyH.cons (o := _) rfl (fun K hK => ?_) AllReadyH.nil
        go_simp
        refine hK.out _ _ ((((hT'.out.other (w.heap.size + 1) 0 _ (by omega)).other (w.heap.size + 1) 1 _ (by omega)).drew)) (fun hHeld => ?_)
        clear hK K
        refine wpAnyH_done (by kernel_rfl) ?_ _
        go_wp2_with fail
        have y0' := hW'.out.c0
        refine bodyPost_ret (v := anV ((0 : Nat), (z : Nat), (e : Nat))) (by simp [results, Tryz.results71, go_sem, anV, y0, y1, yf]) rfl ⟨by rw [HR.out], ?_⟩
        exact put2_below hB'.out.drew (by omega) _ _
    · have heb : ((k : Int) == 0) = false := by simpa using hk
      clear h0
      have hT' := hide hT
      have hB' := hide hB
      have hW' := hide hW
      clear hT hB hW
      unfold syV
      go_enter Tryz.func71, Tryz.ntmps71
      go_wp2_with fail
      generalize World.alloc _ _ = W1 at hT' hB' hW' ⊢
      refine wp_region_held_drew (S := (fun w' => Th w' w.heap.size k z e)) (by kernel_rfl) (hT'.out.drew) (fun hHeld => ?_)
      refine wpAnyH_take (i := 0) (oi := _) (v := .pointer (some ⟨w.heap.size, 0, none⟩)) rfl (by kernel_rfl) (by kernel_rfl) (by kernel_rfl) (fun _ _ _ h => h) (Or.inl ⟨by rfl, fun wS hSw => by go_simp⟩) (by first | trivial | assumption) ?_
      simp only [Act.put, List.getElem_toArray, List.getElem_cons_zero, List.getElem_cons_succ, List.setIfInBounds_toArray, List.set_cons_zero, List.set_cons_succ]
      refine wpAnyH_take (i := 1) (oi := _) (v := .int .i64 (k : Nat)) rfl (by kernel_rfl) (by kernel_rfl) (by kernel_rfl) (fun _ _ _ h => h) (Or.inl ⟨by kernel_rfl, fun wS hSw => by have l0 := hSw.c0; go_simp⟩) (by first | trivial | assumption) ?_
      simp only [Act.put, List.getElem_toArray, List.getElem_cons_zero, List.getElem_cons_succ, List.setIfInBounds_toArray, List.set_cons_zero, List.set_cons_succ]
      refine wpAnyH_take (i := 2) (oi := _) (v := .pointer (some ⟨w.heap.size, 1, none⟩)) rfl (by kernel_rfl) (by kernel_rfl) (by kernel_rfl) (fun _ _ _ h => h) (Or.inl ⟨by rfl, fun wS hSw => by go_simp⟩) (by first | trivial | assumption) ?_
      simp only [Act.put, List.getElem_toArray, List.getElem_cons_zero, List.getElem_cons_succ, List.setIfInBounds_toArray, List.set_cons_zero, List.set_cons_succ]
      refine wpAnyH_take (i := 3) (oi := _) (v := .int .u64 (z : Nat)) rfl (by kernel_rfl) (by kernel_rfl) (by kernel_rfl) (fun _ _ _ h => h) (Or.inl ⟨by kernel_rfl, fun wS hSw => by have l0 := hSw.c1; go_simp⟩) (by first | trivial | assumption) ?_
      simp only [Act.put, List.getElem_toArray, List.getElem_cons_zero, List.getElem_cons_succ, List.setIfInBounds_toArray, List.set_cons_zero, List.set_cons_succ]
      refine wpAnyH_take (i := 4) (oi := _) (v := .int .i64 (z : Nat)) rfl (by kernel_rfl) (by kernel_rfl) (by kernel_rfl) (fun _ _ _ h => h) (Or.inl ⟨by rfl, fun wS hSw => by go_simp⟩) (by first | trivial | assumption) ?_
      simp only [Act.put, List.getElem_toArray, List.getElem_cons_zero, List.getElem_cons_succ, List.setIfInBounds_toArray, List.set_cons_zero, List.set_cons_succ]
      refine wpAnyH_take (i := 5) (oi := _) (v := .agg #[.int .i64 (k : Nat), .int .i64 (z : Nat)]) rfl (by kernel_rfl) (by kernel_rfl) (by kernel_rfl) (fun _ _ _ h => h) (Or.inl ⟨by rfl, fun wS hSw => by go_simp⟩) (by first | trivial | assumption) ?_
      simp only [Act.put, List.getElem_toArray, List.getElem_cons_zero, List.getElem_cons_succ, List.setIfInBounds_toArray, List.set_cons_zero, List.set_cons_succ]
      refine wpAnyH_take (i := 6) (oi := _) (v := .pointer (some ⟨w.heap.size, 2, none⟩)) rfl (by kernel_rfl) (by kernel_rfl) (by kernel_rfl) (fun _ _ _ h => h) (Or.inl ⟨by rfl, fun wS hSw => by go_simp⟩) (by first | trivial | assumption) ?_
      simp only [Act.put, List.getElem_toArray, List.getElem_cons_zero, List.getElem_cons_succ, List.setIfInBounds_toArray, List.set_cons_zero, List.set_cons_succ]
      refine wpAnyH_take (i := 7) (oi := _) (v := .int .i64 (e : Nat)) rfl (by kernel_rfl) (by kernel_rfl) (by kernel_rfl) (fun _ _ _ h => h) (Or.inl ⟨by kernel_rfl, fun wS hSw => by have l0 := hSw.c2; go_simp⟩) (by first | trivial | assumption) ?_
      simp only [Act.put, List.getElem_toArray, List.getElem_cons_zero, List.getElem_cons_succ, List.setIfInBounds_toArray, List.set_cons_zero, List.set_cons_succ]
      have y0 := hW'.out.c0
      have y1 := hW'.out.c1
      have yf := hW'.out.fz
      refine wpAnyH_ready (rs := [8]) (by kernel_rfl) (by simp) ?_
      refine AllReadyH.cons (o := _) rfl (fun K hK => ?_) AllReadyH.nil
      go_simp
      refine hK.out _ _ ((((hT'.out.other (w.heap.size + 1) 0 _ (by omega)).other (w.heap.size + 1) 1 _ (by omega)).drew)) (fun hHeld => ?_)
      clear hK K
      refine wpAnyH_ready (rs := [9]) (by kernel_rfl) (by simp) ?_
      refine AllReadyH.cons (o := _) rfl (fun K hK => ?_) AllReadyH.nil
      go_simp
      refine hK.out _ _ ((((hT'.out.other (w.heap.size + 1) 0 _ (by omega)).other (w.heap.size + 1) 1 _ (by omega)).drew)) (fun hHeld => ?_)
      clear hK K
      refine wpAnyH_done (by kernel_rfl) ?_ _
      go_wp2_with fail
      have y0' := hW'.out.c0
      refine bodyPost_ret (v := anV ((k : Nat), (z : Nat), (e : Nat))) (by simp [results, Tryz.results71, go_sem, anV, y0, y1, yf]) rfl ⟨by rw [HR.out], ?_⟩
      exact put2_below hB'.out.drew (by omega) _ _

end Go.Proofs.YtmpijlaidnhpnaaGreat

namespace Go.Proofs.YtmpijlaidnhpnaaGreat
set_option linter.unusedVariables false
set_option linter.unusedSimpArgs false
set_option maxRecDepth 100000
open Go.RowKit

/-- A row of texts that can be read, from its block's beginning on. -/
def RowS (w : World) (v : Value) (A : List ByteArray) : Prop := ∃ (a : Option Addr) (cap : Nat), v = .slice a A.length cap ∧ A.length ≤ cap ∧
  ∀ k (h : k < A.length), ∃ g, a = some ⟨g, 0, none⟩ ∧ g < w.heap.size ∧ w.cell? ⟨g, k, none⟩ = some (.string A[k])
theorem RowS.below {w w' : World} {v : Value} {A : List ByteArray} (h : RowS w v A) (hb : Below w.heap.size w w') : RowS w' v A := by
  obtain ⟨a, cap, h1, h2, h3⟩ := h
  refine ⟨a, cap, h1, h2, fun k hk => ?_⟩
  obtain ⟨g, e, hg, c0⟩ := h3 k hk
  exact ⟨g, e, Nat.lt_of_lt_of_le hg hb.size, ((stays hb).1 _ _ hg).trans c0⟩
set_option maxHeartbeats 4000000 in
theorem lengthsSay_any (x : ByteArray) (r : List ByteArray) (v : Value) (w : World) (hr : RowS w v (x :: r)) (hl : r.length ≤ 1000) (hs : ∀ y ∈ x :: r, y.size ≤ 10000) :
    Calls Tryz.prog 94 #[v] w fun e w' => e = .returned (syV (lensF x r)) ∧ Below w.heap.size w w' := by
  obtain ⟨a, cap, rfl, hcap, hR⟩ := hr
  obtain ⟨g, rfl, hg, c0⟩ := hR 0 (by simp)
  have hR' : Hid (∀ k (h : k < r.length), w.cell? ⟨g, k + 1, none⟩ = some (.string r[k])) := by
    intro k hk
    obtain ⟨g', e, -, c⟩ := hR (k + 1) (by simp; omega)
    cases e
    exact c
  have HS : Hid (∀ y ∈ r, y.size ≤ 10000) := fun y hy => hs y (by simp [hy])
  have hx := hs x (by simp)
  have hle := ls_le x
  have HYES : Hid ((∀ y ∈ r, lsF y = lsF x) → lensF x r = ls2 (lsF x)) := lens_yes
  have HNO : Hid (∀ y ∈ r, lsF y ≠ lsF x → lensF x r = (0, 0, 32)) := fun y hy h => lens_no hy h
  clear hR hs
  rw [List.length_cons] at hcap ⊢
  have hcall := fun w => lengthSays_any x w (by unfold maxLen; omega)
  obtain ⟨⟨k, z, e⟩, hy⟩ : ∃ y, lsF x = y := ⟨_, rfl⟩
  rw [hy] at hcall hle HYES
  rw [hy] at HNO
  clear hy
  simp only at hle
  obtain ⟨n, hn⟩ : ∃ n, r.length = n := ⟨_, rfl⟩
  rw [hn] at hcap hl ⊢
  have HN := hide hn
  clear hn
  by_cases hc1 : cap = 1
  · subst hc1
    have hn0 : n = 0 := by omega
    have hN0 : Th (w.alloc (.cells #[.int .i64 0, .int .u64 0, .int .i64 0] 105)) w.heap.size 0 0 0 := Th.new w 0 0 0
    have hB0 := one_alloc w #[.int .i64 0, .int .u64 0, .int .i64 0] 105
    have d0 : (w.alloc (.cells #[.int .i64 0, .int .u64 0, .int .i64 0] 105)).cell? ⟨g, 0, none⟩ = some (.string x) := ((stays hB0).1 _ _ hg).trans c0
    go_enter Tryz.func94, Tryz.ntmps94
    go_wp2_with fail
    generalize w.alloc _ = W0 at hN0 hB0 d0 ⊢
    refine (hcall _).mono ?_
    rintro en w1 ⟨rfl, hb1⟩
    have hN1 := (hN0.below hb1).alloc (.cells #[.int .i64 (k : Int), .int .u64 (z : Int), .int .i64 (e : Int)] 105)
    have hB1' := hB0.trans (hb1.mono hB0.size)
    have hB1 := hB1'.alloc hB1'.size (.cells #[.int .i64 (k : Int), .int .u64 (z : Int), .int .i64 (e : Int)] 105)
    have hT1 := Th.new w1 k z e
    have hlt1 : w.heap.size < w1.heap.size := (hN0.below hb1).lt
    have hgz : g < w.heap.size := hg
    clear hN0 hB0 d0 hb1 hcall hB1' c0 hg hx
    unfold syV
    go_wp2_with fail
    generalize w1.alloc _ = W2 at hN1 hB1 hT1 ⊢
    generalize w1.heap.size = N1 at hT1 hlt1 ⊢
    go_loopw [5, 13] (fun _ i wr => ∃ j : Nat, j ≤ n ∧ i = .int .i64 j ∧ Below w.heap.size w wr ∧ Th wr N1 k z e ∧ Th wr w.heap.size 0 0 0 ∧ Hid (∀ y ∈ r.take j, lsF y = (k, z, e))) (fun _ i _ => n - (intOf i).toNat)
    case atStart => exact ⟨0, Nat.zero_le _, rfl, hB1, hT1, hN1, by simp [Hid]⟩
    case round =>
      clear hN1 hB1 hT1
      obtain ⟨j, hj, rfl, hbr, hT, hZ, hall⟩ := hrel
      by_cases hlt : j < n
      · have hltz : (j : Int) < n := by omega
        exfalso
        omega
      · have hd : decide ((j : Int) < n) = false := decide_eq_false (by omega)
        rw [List.take_of_length_le (by rw [HN.out]; omega)] at hall
        have HE := hide (HYES.out hall.out)
        obtain ⟨t0, t1, t2, -, -⟩ := id hT
        obtain ⟨z0, z1, z2, -, zf⟩ := id hZ
        clear hall
        by_cases hbig : 20000 < z
        · have HL := hide (HE.out.trans (ls2_no (y := (k, z, e)) hbig))
          have hbz : (20000 : Int) < (z : Int) := by omega
          clear hbig
          go_wp2_with fail
          refine bodyPost_ret (v := syV (0, 0, 2)) (by simp [results, Tryz.results94, go_sem, syV, z0, z1, z2, zf]) rfl ⟨by rw [HL.out], ?_⟩
          exact put3_below hbr (Nat.le_refl _) 0 0 2
        · have HL := hide (HE.out.trans (ls2_yes (y := (k, z, e)) hbig))
          have hbz : decide ((20000 : Int) < (z : Int)) = false := decide_eq_false (by omega)
          clear hbig
          go_wp2_with fail
          refine bodyPost_ret (v := syV (k, z, e)) (by simp [results, Tryz.results94, go_sem, syV, z0, z1, z2, zf]) rfl ⟨by rw [HL.out], ?_⟩
          exact put3_below hbr (Nat.le_refl _) k z e
  · have hc2 : (cap : Int) ≠ 1 := by omega
    have hN0 : Th (w.alloc (.cells #[.int .i64 0, .int .u64 0, .int .i64 0] 105)) w.heap.size 0 0 0 := Th.new w 0 0 0
    have hB0 := one_alloc w #[.int .i64 0, .int .u64 0, .int .i64 0] 105
    have d0 : (w.alloc (.cells #[.int .i64 0, .int .u64 0, .int .i64 0] 105)).cell? ⟨g, 0, none⟩ = some (.string x) := ((stays hB0).1 _ _ hg).trans c0
    go_enter Tryz.func94, Tryz.ntmps94
    go_wp2_with fail
    generalize w.alloc _ = W0 at hN0 hB0 d0 ⊢
    refine (hcall _).mono ?_
    rintro en w1 ⟨rfl, hb1⟩
    have hN1 := (hN0.below hb1).alloc (.cells #[.int .i64 (k : Int), .int .u64 (z : Int), .int .i64 (e : Int)] 105)
    have hB1' := hB0.trans (hb1.mono hB0.size)
    have hB1 := hB1'.alloc hB1'.size (.cells #[.int .i64 (k : Int), .int .u64 (z : Int), .int .i64 (e : Int)] 105)
    have hT1 := Th.new w1 k z e
    have hlt1 : w.heap.size < w1.heap.size := (hN0.below hb1).lt
    have hgz : g < w.heap.size := hg
    clear hN0 hB0 d0 hb1 hcall hB1' c0 hg hx
    unfold syV
    go_wp2_with fail
    generalize w1.alloc _ = W2 at hN1 hB1 hT1 ⊢
    generalize w1.heap.size = N1 at hT1 hlt1 ⊢
    go_loopw [5, 13] (fun _ i wr => ∃ j : Nat, j ≤ n ∧ i = .int .i64 j ∧ Below w.heap.size w wr ∧ Th wr N1 k z e ∧ Th wr w.heap.size 0 0 0 ∧ Hid (∀ y ∈ r.take j, lsF y = (k, z, e))) (fun _ i _ => n - (intOf i).toNat)
    case atStart => exact ⟨0, Nat.zero_le _, rfl, hB1, hT1, hN1, by simp [Hid]⟩
    case round =>
      clear hN1 hB1 hT1
      obtain ⟨j, hj, rfl, hbr, hT, hZ, hall⟩ := hrel
      by_cases hlt : j < n
      · have hltz : (j : Int) < n := by omega
        have hjr : j < r.length := by rw [HN.out]; exact hlt
        have hcell : wr.cell? ⟨g, 1 + j, none⟩ = some (.string r[j]) := by
          rw [(stays hbr).1 _ _ hgz, Nat.add_comm]
          exact hR'.out j hjr
        have hys := HS.out _ (List.getElem_mem hjr)
        have HNO' := hide (HNO.out _ (List.getElem_mem hjr))
        have NXT := hide (take_next (p := fun y => lsF y = (k, z, e)) hjr hall.out)
        obtain ⟨y, hy⟩ : ∃ y, r[j]'hjr = y := ⟨_, rfl⟩
        rw [hy] at hcell hys HNO' NXT
        have hcy := fun w => lengthSays_any y w (by unfold maxLen; omega)
        clear hy hall
        by_cases hyx : lsF y = (k, z, e)
        · rw [hyx] at hcy
          have NX := hide (NXT.out hyx)
          clear NXT HNO' hyx
          unfold syV at hcy
          go_wp2_with fail
          refine wp_region_held_drew (S := (fun w' => Th w' N1 k z e)) (by kernel_rfl) (hT.drew) (fun hHeld => ?_)
          refine wpAnyH_take (i := 0) (oi := _) (v := .string y) rfl (by kernel_rfl) (by kernel_rfl) (by kernel_rfl) (fun _ _ _ h => h) (Or.inl ⟨by rfl, fun wS hSw => by go_simp⟩) (by first | trivial | assumption) ?_
          simp only [Act.put, List.getElem_toArray, List.getElem_cons_zero, List.getElem_cons_succ, List.setIfInBounds_toArray, List.set_cons_zero, List.set_cons_succ]
          refine wpAnyH_take (i := 2) (oi := _) (v := .agg #[.int .i64 (k : Int), .int .u64 (z : Int), .int .i64 (e : Int)]) rfl (by kernel_rfl) (by kernel_rfl) (by kernel_rfl) (fun _ _ _ h => h) (Or.inl ⟨by kernel_rfl, fun wS hSw => by have l0 := hSw.c0; have l1 := hSw.c1; have l2 := hSw.c2; go_simp⟩) (by first | trivial | assumption) ?_
          simp only [Act.put, List.getElem_toArray, List.getElem_cons_zero, List.getElem_cons_succ, List.setIfInBounds_toArray, List.set_cons_zero, List.set_cons_succ]
          refine wpAnyH_ready (rs := [1]) (by kernel_rfl) (by simp) ?_
          refine AllReadyH.cons (o := _) rfl (fun K hK => ?_) AllReadyH.nil
          go_simp
          refine (hcy _).mono ?_
          rintro en w2 ⟨rfl, hb2⟩
          refine hK.out _ _ ((hT.drew.below hb2)) (fun hHeld => ?_)
          clear hK K
          refine wpAnyH_take (i := 3) (oi := _) (v := .bool false) rfl (by kernel_rfl) (by kernel_rfl) (by kernel_rfl) (fun _ _ _ h => h) (Or.inl ⟨by rfl, fun wS hSw => by go_simp⟩) (by first | trivial | assumption) ?_
          simp only [Act.put, List.getElem_toArray, List.getElem_cons_zero, List.getElem_cons_succ, List.setIfInBounds_toArray, List.set_cons_zero, List.set_cons_succ]
          refine wpAnyH_done (by kernel_rfl) ?_ _
          have hB2 := hbr.drew.trans (hb2.mono hbr.size)
          have hT2 := hT.drew.below hb2
          have hZ2 := hZ.drew.below hb2
          go_wp2_with fail
          exact ⟨⟨j + 1, by omega, by go_num, hB2, hT2, hZ2, NX.out⟩, by simp [intOf]; omega⟩
        · have HE := hide (HNO'.out hyx)
          clear NXT HNO'
          obtain ⟨⟨k', z', e'⟩, hk'⟩ : ∃ q, lsF y = q := ⟨_, rfl⟩
          rw [hk'] at hcy hyx
          clear hk'
          have hne : (k' : Int) = k → (z' : Int) = z → ¬ (e' : Int) = e := by
            intro q1 q2 q3
            obtain rfl : k' = k := by omega
            obtain rfl : z' = z := by omega
            obtain rfl : e' = e := by omega
            exact hyx rfl
          clear hyx
          unfold syV at hcy
          go_wp2_with fail
          refine wp_region_held_drew (S := (fun w' => Th w' N1 k z e)) (by kernel_rfl) (hT.drew) (fun hHeld => ?_)
          refine wpAnyH_take (i := 0) (oi := _) (v := .string y) rfl (by kernel_rfl) (by kernel_rfl) (by kernel_rfl) (fun _ _ _ h => h) (Or.inl ⟨by rfl, fun wS hSw => by go_simp⟩) (by first | trivial | assumption) ?_
          simp only [Act.put, List.getElem_toArray, List.getElem_cons_zero, List.getElem_cons_succ, List.setIfInBounds_toArray, List.set_cons_zero, List.set_cons_succ]
          refine wpAnyH_take (i := 2) (oi := _) (v := .agg #[.int .i64 (k : Int), .int .u64 (z : Int), .int .i64 (e : Int)]) rfl (by kernel_rfl) (by kernel_rfl) (by kernel_rfl) (fun _ _ _ h => h) (Or.inl ⟨by kernel_rfl, fun wS hSw => by have l0 := hSw.c0; have l1 := hSw.c1; have l2 := hSw.c2; go_simp⟩) (by first | trivial | assumption) ?_
          simp only [Act.put, List.getElem_toArray, List.getElem_cons_zero, List.getElem_cons_succ, List.setIfInBounds_toArray, List.set_cons_zero, List.set_cons_succ]
          refine wpAnyH_ready (rs := [1]) (by kernel_rfl) (by simp) ?_
          refine AllReadyH.cons (o := _) rfl (fun K hK => ?_) AllReadyH.nil
          go_simp
          refine (hcy _).mono ?_
          rintro en w2 ⟨rfl, hb2⟩
          refine hK.out _ _ ((hT.drew.below hb2)) (fun hHeld => ?_)
          clear hK K
          refine wpAnyH_take (i := 3) (oi := _) (v := .bool true) rfl (by kernel_rfl) (by kernel_rfl) (by kernel_rfl) (fun _ _ _ h => h) (Or.inl ⟨by rfl, fun wS hSw => by go_simp; exact hne⟩) (by first | trivial | assumption) ?_
          simp only [Act.put, List.getElem_toArray, List.getElem_cons_zero, List.getElem_cons_succ, List.setIfInBounds_toArray, List.set_cons_zero, List.set_cons_succ]
          refine wpAnyH_done (by kernel_rfl) ?_ _
          have hB2 := hbr.drew.trans (hb2.mono hbr.size)
          have hZ2 := hZ.drew.below hb2
          obtain ⟨z0, z1, z2, -, zf⟩ := id hZ2
          go_wp2_with fail
          refine bodyPost_ret (v := syV (0, 0, 32)) (by simp [results, Tryz.results94, go_sem, syV, z0, z1, z2, zf]) rfl ⟨by rw [HE.out], ?_⟩
          exact put3_below hB2 (Nat.le_refl _) 0 0 32
      · have hd : decide ((j : Int) < n) = false := decide_eq_false (by omega)
        rw [List.take_of_length_le (by rw [HN.out]; omega)] at hall
        have HE := hide (HYES.out hall.out)
        obtain ⟨t0, t1, t2, -, -⟩ := id hT
        obtain ⟨z0, z1, z2, -, zf⟩ := id hZ
        clear hall
        by_cases hbig : 20000 < z
        · have HL := hide (HE.out.trans (ls2_no (y := (k, z, e)) hbig))
          have hbz : (20000 : Int) < (z : Int) := by omega
          clear hbig
          go_wp2_with fail
          refine bodyPost_ret (v := syV (0, 0, 2)) (by simp [results, Tryz.results94, go_sem, syV, z0, z1, z2, zf]) rfl ⟨by rw [HL.out], ?_⟩
          exact put3_below hbr (Nat.le_refl _) 0 0 2
        · have HL := hide (HE.out.trans (ls2_yes (y := (k, z, e)) hbig))
          have hbz : decide ((20000 : Int) < (z : Int)) = false := decide_eq_false (by omega)
          clear hbig
          go_wp2_with fail
          refine bodyPost_ret (v := syV (k, z, e)) (by simp [results, Tryz.results94, go_sem, syV, z0, z1, z2, zf]) rfl ⟨by rw [HL.out], ?_⟩
          exact put3_below hbr (Nat.le_refl _) k z e

end Go.Proofs.YtmpijlaidnhpnaaGreat
