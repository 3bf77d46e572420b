/- The walks of what a saying becomes, and of what several lengths say. -/
import Derived.Test.YtplanlhgcckioaaDoorGa
import Derived.Deep.RegionHeld
namespace Go.Proofs.YtplanlhgcckioaaDoor
set_option linter.unusedVariables false
set_option linter.unusedSimpArgs false
set_option maxRecDepth 100000
open Go.RowKit

theorem an_ret (a b : An) (h : a = b) : Ending.returned (anV a) = .returned (anV b) := by rw [h]
theorem i64_fits {z : Nat} (h : z ≤ 1099511627776) : IntKind.i64.wrap (z : Int) = z := by simp [IntKind.wrap, IntKind.bits, IntKind.signed]; omega

set_option maxHeartbeats 2000000 in
theorem orElse_any (k z e : Nat) (kind : Int) (w : World) (hz : z ≤ 1099511627776) :
    Calls Tryd.prog 30 #[syV (k, z, e), .int .i64 kind] w fun en w' => en = .returned (anV (elseF (k, z, e) kind)) ∧ Below w.heap.size w w' := by
  have hT : Th ((w.alloc (.cells #[.int .i64 (k : Int), .int .u64 (z : Int), .int .i64 (e : Int)] 56)).alloc (.cells #[.int .i64 0, .int .i64 0] 24)) w.heap.size k z e := (Th.new w k z e).alloc _
  have hW : Tw ((w.alloc (.cells #[.int .i64 (k : Int), .int .u64 (z : Int), .int .i64 (e : Int)] 56)).alloc (.cells #[.int .i64 0, .int .i64 0] 24)) (w.heap.size + 1) 0 0 := by
    have := Tw.new (w.alloc (.cells #[.int .i64 (k : Int), .int .u64 (z : Int), .int .i64 (e : Int)] 56)) 0 0
    rwa [show (w.alloc (.cells #[.int .i64 (k : Int), .int .u64 (z : Int), .int .i64 (e : Int)] 56)).heap.size = w.heap.size + 1 by simp] at this
  have hB : Below w.heap.size w ((w.alloc (.cells #[.int .i64 (k : Int), .int .u64 (z : Int), .int .i64 (e : Int)] 56)).alloc (.cells #[.int .i64 0, .int .i64 0] 24)) := (one_alloc w _ _).alloc (by simp) _
  by_cases h0 : (k, z, e) = (0, 0, 0)
  · have HR := hide (else_no (k := kind) h0)
    obtain ⟨rfl, h1⟩ := Prod.mk.inj h0
    obtain ⟨rfl, rfl⟩ := Prod.mk.inj h1
    clear h0 h1
    unfold syV
    go_enter Tryd.func30, Tryd.ntmps30
    go_wp2_with fail
    exact bodyPost_ret (v := anV (kind, 0, 0)) (by simp [results, Tryd.results30, go_sem, anV]) rfl ⟨by rw [HR.out], (one_alloc w _ _).alloc (by simp) _⟩
  · have HR := hide (else_yes (k := kind) h0)
    have hzw := i64_fits hz
    have hw0 : IntKind.i64.wrap 0 = 0 := by decide
    by_cases hk : k = 0
    · subst hk
      by_cases hz0 : z = 0
      · subst hz0
        have he : e ≠ 0 := fun g => h0 (by rw [g])
        have heb : ((e : Int) == 0) = false := by simpa using he
        clear h0
        have hT' := hide hT
        have hB' := hide hB
        have hW' := hide hW
        clear hT hB hW
        unfold syV
        go_enter Tryd.func30, Tryd.ntmps30
        go_wp2_with fail
        generalize World.alloc _ _ = W1 at hT' hB' hW' ⊢
        refine wp_region_held_drew (S := (fun w' => Th w' w.heap.size 0 0 e)) (by kernel_rfl) (hT'.out.drew) (fun hHeld => ?_)
        refine wpAnyH_take (i := 0) (oi := _) (v := .pointer (some ⟨w.heap.size, 0, none⟩)) rfl (by kernel_rfl) (by kernel_rfl) (by kernel_rfl) (fun _ _ _ h => h) (Or.inl ⟨by rfl, fun wS hSw => by go_simp⟩) (by first | trivial | assumption) ?_
        simp only [Act.put, List.getElem_toArray, List.getElem_cons_zero, List.getElem_cons_succ, List.setIfInBounds_toArray, List.set_cons_zero, List.set_cons_succ]
        refine wpAnyH_take (i := 1) (oi := _) (v := .int .i64 (0 : Nat)) rfl (by kernel_rfl) (by kernel_rfl) (by kernel_rfl) (fun _ _ _ h => h) (Or.inl ⟨by kernel_rfl, fun wS hSw => by have l0 := hSw.c0; go_simp⟩) (by first | trivial | assumption) ?_
        simp only [Act.put, List.getElem_toArray, List.getElem_cons_zero, List.getElem_cons_succ, List.setIfInBounds_toArray, List.set_cons_zero, List.set_cons_succ]
        refine wpAnyH_take (i := 2) (oi := _) (v := .pointer (some ⟨w.heap.size, 1, none⟩)) rfl (by kernel_rfl) (by kernel_rfl) (by kernel_rfl) (fun _ _ _ h => h) (Or.inl ⟨by rfl, fun wS hSw => by go_simp⟩) (by first | trivial | assumption) ?_
        simp only [Act.put, List.getElem_toArray, List.getElem_cons_zero, List.getElem_cons_succ, List.setIfInBounds_toArray, List.set_cons_zero, List.set_cons_succ]
        refine wpAnyH_take (i := 3) (oi := _) (v := .int .u64 (0 : Nat)) rfl (by kernel_rfl) (by kernel_rfl) (by kernel_rfl) (fun _ _ _ h => h) (Or.inl ⟨by kernel_rfl, fun wS hSw => by have l0 := hSw.c1; go_simp⟩) (by first | trivial | assumption) ?_
        simp only [Act.put, List.getElem_toArray, List.getElem_cons_zero, List.getElem_cons_succ, List.setIfInBounds_toArray, List.set_cons_zero, List.set_cons_succ]
        refine wpAnyH_take (i := 4) (oi := _) (v := .int .i64 (0 : Nat)) rfl (by kernel_rfl) (by kernel_rfl) (by kernel_rfl) (fun _ _ _ h => h) (Or.inl ⟨by rfl, fun wS hSw => by go_simp⟩) (by first | trivial | assumption) ?_
        simp only [Act.put, List.getElem_toArray, List.getElem_cons_zero, List.getElem_cons_succ, List.setIfInBounds_toArray, List.set_cons_zero, List.set_cons_succ]
        refine wpAnyH_take (i := 5) (oi := _) (v := .agg #[.int .i64 (0 : Nat), .int .i64 (0 : Nat)]) rfl (by kernel_rfl) (by kernel_rfl) (by kernel_rfl) (fun _ _ _ h => h) (Or.inl ⟨by rfl, fun wS hSw => by go_simp⟩) (by first | trivial | assumption) ?_
        simp only [Act.put, List.getElem_toArray, List.getElem_cons_zero, List.getElem_cons_succ, List.setIfInBounds_toArray, List.set_cons_zero, List.set_cons_succ]
        refine wpAnyH_take (i := 6) (oi := _) (v := .pointer (some ⟨w.heap.size, 2, none⟩)) rfl (by kernel_rfl) (by kernel_rfl) (by kernel_rfl) (fun _ _ _ h => h) (Or.inl ⟨by rfl, fun wS hSw => by go_simp⟩) (by first | trivial | assumption) ?_
        simp only [Act.put, List.getElem_toArray, List.getElem_cons_zero, List.getElem_cons_succ, List.setIfInBounds_toArray, List.set_cons_zero, List.set_cons_succ]
        refine wpAnyH_take (i := 7) (oi := _) (v := .int .i64 (e : Nat)) rfl (by kernel_rfl) (by kernel_rfl) (by kernel_rfl) (fun _ _ _ h => h) (Or.inl ⟨by kernel_rfl, fun wS hSw => by have l0 := hSw.c2; go_simp⟩) (by first | trivial | assumption) ?_
        simp only [Act.put, List.getElem_toArray, List.getElem_cons_zero, List.getElem_cons_succ, List.setIfInBounds_toArray, List.set_cons_zero, List.set_cons_succ]
        have y0 := hW'.out.c0
        have y1 := hW'.out.c1
        have yf := hW'.out.fz
        refine wpAnyH_ready (rs := [8]) (by kernel_rfl) (by simp) ?_
        refine AllReadyH.cons (o := _) rfl (fun K hK => ?_) AllReadyH.nil
        go_simp
        refine hK.out _ _ ((((hT'.out.other (w.heap.size + 1) 0 _ (by omega)).other (w.heap.size + 1) 1 _ (by omega)).drew)) (fun hHeld => ?_)
        clear hK K
        refine wpAnyH_ready (rs := [9]) (by kernel_rfl) (by simp) ?_
        refine AllReadyH.cons (o := _) rfl (fun K hK => ?_) AllReadyH.nil
        go_simp
        refine hK.out _ _ ((((hT'.out.other (w.heap.size + 1) 0 _ (by omega)).other (w.heap.size + 1) 1 _ (by omega)).drew)) (fun hHeld => ?_)
        clear hK K
        refine wpAnyH_done (by kernel_rfl) ?_ _
        go_wp2_with fail
        have y0' := hW'.out.c0
        refine bodyPost_ret (v := anV ((0 : Nat), (0 : Nat), (e : Nat))) (by simp [results, Tryd.results30, go_sem, anV, y0, y1, yf]) rfl ⟨by rw [HR.out], ?_⟩
        exact put2_below hB'.out.drew (by omega) _ _
      · have heb : ((z : Int) == 0) = false := by simpa using hz0
        clear h0
        have hT' := hide hT
        have hB' := hide hB
        have hW' := hide hW
        clear hT hB hW
        unfold syV
        go_enter Tryd.func30, Tryd.ntmps30
        go_wp2_with fail
        generalize World.alloc _ _ = W1 at hT' hB' hW' ⊢
        refine wp_region_held_drew (S := (fun w' => Th w' w.heap.size 0 z e)) (by kernel_rfl) (hT'.out.drew) (fun hHeld => ?_)
        refine wpAnyH_take (i := 0) (oi := _) (v := .pointer (some ⟨w.heap.size, 0, none⟩)) rfl (by kernel_rfl) (by kernel_rfl) (by kernel_rfl) (fun _ _ _ h => h) (Or.inl ⟨by rfl, fun wS hSw => by go_simp⟩) (by first | trivial | assumption) ?_
        simp only [Act.put, List.getElem_toArray, List.getElem_cons_zero, List.getElem_cons_succ, List.setIfInBounds_toArray, List.set_cons_zero, List.set_cons_succ]
        refine wpAnyH_take (i := 1) (oi := _) (v := .int .i64 (0 : Nat)) rfl (by kernel_rfl) (by kernel_rfl) (by kernel_rfl) (fun _ _ _ h => h) (Or.inl ⟨by kernel_rfl, fun wS hSw => by have l0 := hSw.c0; go_simp⟩) (by first | trivial | assumption) ?_
        simp only [Act.put, List.getElem_toArray, List.getElem_cons_zero, List.getElem_cons_succ, List.setIfInBounds_toArray, List.set_cons_zero, List.set_cons_succ]
        refine wpAnyH_take (i := 2) (oi := _) (v := .pointer (some ⟨w.heap.size, 1, none⟩)) rfl (by kernel_rfl) (by kernel_rfl) (by kernel_rfl) (fun _ _ _ h => h) (Or.inl ⟨by rfl, fun wS hSw => by go_simp⟩) (by first | trivial | assumption) ?_
        simp only [Act.put, List.getElem_toArray, List.getElem_cons_zero, List.getElem_cons_succ, List.setIfInBounds_toArray, List.set_cons_zero, List.set_cons_succ]
        refine wpAnyH_take (i := 3) (oi := _) (v := .int .u64 (z : Nat)) rfl (by kernel_rfl) (by kernel_rfl) (by kernel_rfl) (fun _ _ _ h => h) (Or.inl ⟨by kernel_rfl, fun wS hSw => by have l0 := hSw.c1; go_simp⟩) (by first | trivial | assumption) ?_
        simp only [Act.put, List.getElem_toArray, List.getElem_cons_zero, List.getElem_cons_succ, List.setIfInBounds_toArray, List.set_cons_zero, List.set_cons_succ]
        refine wpAnyH_take (i := 4) (oi := _) (v := .int .i64 (z : Nat)) rfl (by kernel_rfl) (by kernel_rfl) (by kernel_rfl) (fun _ _ _ h => h) (Or.inl ⟨by rfl, fun wS hSw => by go_simp⟩) (by first | trivial | assumption) ?_
        simp only [Act.put, List.getElem_toArray, List.getElem_cons_zero, List.getElem_cons_succ, List.setIfInBounds_toArray, List.set_cons_zero, List.set_cons_succ]
        refine wpAnyH_take (i := 5) (oi := _) (v := .agg #[.int .i64 (0 : Nat), .int .i64 (z : Nat)]) rfl (by kernel_rfl) (by kernel_rfl) (by kernel_rfl) (fun _ _ _ h => h) (Or.inl ⟨by rfl, fun wS hSw => by go_simp⟩) (by first | trivial | assumption) ?_
        simp only [Act.put, List.getElem_toArray, List.getElem_cons_zero, List.getElem_cons_succ, List.setIfInBounds_toArray, List.set_cons_zero, List.set_cons_succ]
        refine wpAnyH_take (i := 6) (oi := _) (v := .pointer (some ⟨w.heap.size, 2, none⟩)) rfl (by kernel_rfl) (by kernel_rfl) (by kernel_rfl) (fun _ _ _ h => h) (Or.inl ⟨by rfl, fun wS hSw => by go_simp⟩) (by first | trivial | assumption) ?_
        simp only [Act.put, List.getElem_toArray, List.getElem_cons_zero, List.getElem_cons_succ, List.setIfInBounds_toArray, List.set_cons_zero, List.set_cons_succ]
        refine wpAnyH_take (i := 7) (oi := _) (v := .int .i64 (e : Nat)) rfl (by kernel_rfl) (by kernel_rfl) (by kernel_rfl) (fun _ _ _ h => h) (Or.inl ⟨by kernel_rfl, fun wS hSw => by have l0 := hSw.c2; go_simp⟩) (by first | trivial | assumption) ?_
        simp only [Act.put, List.getElem_toArray, List.getElem_cons_zero, List.getElem_cons_succ, List.setIfInBounds_toArray, List.set_cons_zero, List.set_cons_succ]
        have y0 := hW'.out.c0
        have y1 := hW'.out.c1
        have yf := hW'.out.fz
        refine wpAnyH_ready (rs := [8]) (by kernel_rfl) (by simp) ?_
        refine AllReadyH.cons (o := _) rfl (fun K hK => ?_) AllReadyH.nil
        go_simp
        refine hK.out _ _ ((((hT'.out.other (w.heap.size + 1) 0 _ (by omega)).other (w.heap.size + 1) 1 _ (by omega)).drew)) (fun hHeld => ?_)
        clear hK K
        refine wpAnyH_ready (rs := [9]) (by kernel_rfl) (by simp) ?_
        refine AllReadyH.cons (o := _) rfl (fun K hK => ?_) AllReadyH.nil
        go_simp
        refine hK.out _ _ ((((hT'.out.other (w.heap.size + 1) 0 _ (by omega)).other (w.heap.size + 1) 1 _ (by omega)).drew)) (fun hHeld => ?_)
        clear hK K
        refine wpAnyH_done (by kernel_rfl) ?_ _
        go_wp2_with fail
        have y0' := hW'.out.c0
        refine bodyPost_ret (v := anV ((0 : Nat), (z : Nat), (e : Nat))) (by simp [results, Tryd.results30, go_sem, anV, y0, y1, yf]) rfl ⟨by rw [HR.out], ?_⟩
        exact put2_below hB'.out.drew (by omega) _ _
    · have heb : ((k : Int) == 0) = false := by simpa using hk
      clear h0
      have hT' := hide hT
      have hB' := hide hB
      have hW' := hide hW
      clear hT hB hW
      unfold syV
      go_enter Tryd.func30, Tryd.ntmps30
      go_wp2_with fail
      generalize World.alloc _ _ = W1 at hT' hB' hW' ⊢
      refine wp_region_held_drew (S := (fun w' => Th w' w.heap.size k z e)) (by kernel_rfl) (hT'.out.drew) (fun hHeld => ?_)
      refine wpAnyH_take (i := 0) (oi := _) (v := .pointer (some ⟨w.heap.size, 0, none⟩)) rfl (by kernel_rfl) (by kernel_rfl) (by kernel_rfl) (fun _ _ _ h => h) (Or.inl ⟨by rfl, fun wS hSw => by go_simp⟩) (by first | trivial | assumption) ?_
      simp only [Act.put, List.getElem_toArray, List.getElem_cons_zero, List.getElem_cons_succ, List.setIfInBounds_toArray, List.set_cons_zero, List.set_cons_succ]
      refine wpAnyH_take (i := 1) (oi := _) (v := .int .i64 (k : Nat)) rfl (by kernel_rfl) (by kernel_rfl) (by kernel_rfl) (fun _ _ _ h => h) (Or.inl ⟨by kernel_rfl, fun wS hSw => by have l0 := hSw.c0; go_simp⟩) (by first | trivial | assumption) ?_
      simp only [Act.put, List.getElem_toArray, List.getElem_cons_zero, List.getElem_cons_succ, List.setIfInBounds_toArray, List.set_cons_zero, List.set_cons_succ]
      refine wpAnyH_take (i := 2) (oi := _) (v := .pointer (some ⟨w.heap.size, 1, none⟩)) rfl (by kernel_rfl) (by kernel_rfl) (by kernel_rfl) (fun _ _ _ h => h) (Or.inl ⟨by rfl, fun wS hSw => by go_simp⟩) (by first | trivial | assumption) ?_
      simp only [Act.put, List.getElem_toArray, List.getElem_cons_zero, List.getElem_cons_succ, List.setIfInBounds_toArray, List.set_cons_zero, List.set_cons_succ]
      refine wpAnyH_take (i := 3) (oi := _) (v := .int .u64 (z : Nat)) rfl (by kernel_rfl) (by kernel_rfl) (by kernel_rfl) (fun _ _ _ h => h) (Or.inl ⟨by kernel_rfl, fun wS hSw => by have l0 := hSw.c1; go_simp⟩) (by first | trivial | assumption) ?_
      simp only [Act.put, List.getElem_toArray, List.getElem_cons_zero, List.getElem_cons_succ, List.setIfInBounds_toArray, List.set_cons_zero, List.set_cons_succ]
      refine wpAnyH_take (i := 4) (oi := _) (v := .int .i64 (z : Nat)) rfl (by kernel_rfl) (by kernel_rfl) (by kernel_rfl) (fun _ _ _ h => h) (Or.inl ⟨by rfl, fun wS hSw => by go_simp⟩) (by first | trivial | assumption) ?_
      simp only [Act.put, List.getElem_toArray, List.getElem_cons_zero, List.getElem_cons_succ, List.setIfInBounds_toArray, List.set_cons_zero, List.set_cons_succ]
      refine wpAnyH_take (i := 5) (oi := _) (v := .agg #[.int .i64 (k : Nat), .int .i64 (z : Nat)]) rfl (by kernel_rfl) (by kernel_rfl) (by kernel_rfl) (fun _ _ _ h => h) (Or.inl ⟨by rfl, fun wS hSw => by go_simp⟩) (by first | trivial | assumption) ?_
      simp only [Act.put, List.getElem_toArray, List.getElem_cons_zero, List.getElem_cons_succ, List.setIfInBounds_toArray, List.set_cons_zero, List.set_cons_succ]
      refine wpAnyH_take (i := 6) (oi := _) (v := .pointer (some ⟨w.heap.size, 2, none⟩)) rfl (by kernel_rfl) (by kernel_rfl) (by kernel_rfl) (fun _ _ _ h => h) (Or.inl ⟨by rfl, fun wS hSw => by go_simp⟩) (by first | trivial | assumption) ?_
      simp only [Act.put, List.getElem_toArray, List.getElem_cons_zero, List.getElem_cons_succ, List.setIfInBounds_toArray, List.set_cons_zero, List.set_cons_succ]
      refine wpAnyH_take (i := 7) (oi := _) (v := .int .i64 (e : Nat)) rfl (by kernel_rfl) (by kernel_rfl) (by kernel_rfl) (fun _ _ _ h => h) (Or.inl ⟨by kernel_rfl, fun wS hSw => by have l0 := hSw.c2; go_simp⟩) (by first | trivial | assumption) ?_
      simp only [Act.put, List.getElem_toArray, List.getElem_cons_zero, List.getElem_cons_succ, List.setIfInBounds_toArray, List.set_cons_zero, List.set_cons_succ]
      have y0 := hW'.out.c0
      have y1 := hW'.out.c1
      have yf := hW'.out.fz
      refine wpAnyH_ready (rs := [8]) (by kernel_rfl) (by simp) ?_
      refine AllReadyH.cons (o := _) rfl (fun K hK => ?_) AllReadyH.nil
      go_simp
      refine hK.out _ _ ((((hT'.out.other (w.heap.size + 1) 0 _ (by omega)).other (w.heap.size + 1) 1 _ (by omega)).drew)) (fun hHeld => ?_)
      clear hK K
      refine wpAnyH_ready (rs := [9]) (by kernel_rfl) (by simp) ?_
      refine AllReadyH.cons (o := _) rfl (fun K hK => ?_) AllReadyH.nil
      go_simp
      refine hK.out _ _ ((((hT'.out.other (w.heap.size + 1) 0 _ (by omega)).other (w.heap.size + 1) 1 _ (by omega)).drew)) (fun hHeld => ?_)
      clear hK K
      refine wpAnyH_done (by kernel_rfl) ?_ _
      go_wp2_with fail
      have y0' := hW'.out.c0
      refine bodyPost_ret (v := anV ((k : Nat), (z : Nat), (e : Nat))) (by simp [results, Tryd.results30, go_sem, anV, y0, y1, yf]) rfl ⟨by rw [HR.out], ?_⟩
      exact put2_below hB'.out.drew (by omega) _ _

end Go.Proofs.YtplanlhgcckioaaDoor
