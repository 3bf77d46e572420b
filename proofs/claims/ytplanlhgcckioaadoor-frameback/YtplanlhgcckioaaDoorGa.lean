/- What is said, and bodies, in memory; the walk of what one length says. -/
import Derived.Test.YtplanlhgcckioaaDoorMf
import Derived.Test.YtplanlhgcckioaaDoorNc
namespace Go.Proofs.YtplanlhgcckioaaDoor
set_option linter.unusedVariables false
set_option linter.unusedSimpArgs false
set_option maxRecDepth 100000
open Go.RowKit

/-- What is said lies in block N. -/
structure Th (w : World) (N : Nat) (k : Nat) (z : Nat) (e : Nat) : Prop where
  c0 : w.cell? ⟨N, 0, none⟩ = some (.int .i64 (k : Int))
  c1 : w.cell? ⟨N, 1, none⟩ = some (.int .u64 (z : Int))
  c2 : w.cell? ⟨N, 2, none⟩ = some (.int .i64 (e : Int))
  lt : N < w.heap.size
  fz : ∀ o, w.frozen? ⟨N, o, none⟩ = false
theorem Th.below {w w' : World} {N : Nat} {k : Nat} {z : Nat} {e : Nat} (h : Th w N k z e) (hb : Below w.heap.size w w') : Th w' N k z e := by
  have hc : ∀ k, w'.cell? ⟨N, k, none⟩ = w.cell? ⟨N, k, none⟩ := fun k => hb.cell (p := ⟨N, k, none⟩) h.lt
  exact ⟨(hc 0).trans h.c0, (hc 1).trans h.c1, (hc 2).trans h.c2, Nat.lt_of_lt_of_le h.lt hb.size, fun o => (hb.frozen (p := ⟨N, o, none⟩) h.lt).trans (h.fz o)⟩
theorem Th.new (w : World) (k : Nat) (z : Nat) (e : Nat) : Th (w.alloc (.cells #[.int .i64 (k : Int), .int .u64 (z : Int), .int .i64 (e : Int)] 56)) w.heap.size k z e :=
  ⟨by rw [World.cell?_alloc_new]; rfl, by rw [World.cell?_alloc_new]; rfl, by rw [World.cell?_alloc_new]; rfl, by simp, fun o => World.frozen?_alloc_new _ _ _ _⟩
theorem Th.alloc {w : World} {N : Nat} {k : Nat} {z : Nat} {e : Nat} (h : Th w N k z e) (o : Obj) : Th (w.alloc o) N k z e := h.below ((Below.refl _ _).alloc (Nat.le_refl _) o)
theorem Th.drew {w : World} {N : Nat} {k : Nat} {z : Nat} {e : Nat} (h : Th w N k z e) : Th w.drew N k z e := ⟨h.c0, h.c1, h.c2, h.lt, h.fz⟩
theorem Th.other {w : World} {N : Nat} {k : Nat} {z : Nat} {e : Nat} (h : Th w N k z e) (M q : Nat) (v : Value) (hM : M ≠ N) : Th (w.setCell ⟨M, q, none⟩ v) N k z e := by
  have hc : ∀ j, (w.setCell ⟨M, q, none⟩ v).cell? ⟨N, j, none⟩ = w.cell? ⟨N, j, none⟩ := fun j => World.cell?_setCell_other _ _ _ _ (by simp [Ne.symm hM])
  exact ⟨(hc 0).trans h.c0, (hc 1).trans h.c1, (hc 2).trans h.c2, by simpa using h.lt, fun o => by rw [World.frozen?_setCell]; exact h.fz o⟩
def put3 (w : World) (N : Nat) (k : Nat) (z : Nat) (e : Nat) : World := ((w.setCell ⟨N, 0, none⟩ (.int .i64 (k : Int))).setCell ⟨N, 1, none⟩ (.int .u64 (z : Int))).setCell ⟨N, 2, none⟩ (.int .i64 (e : Int))
theorem put3_is {w : World} {N : Nat} {k : Nat} {z : Nat} {e : Nat} (h : Th w N k z e) (k' : Nat) (z' : Nat) (e' : Nat) : Th (put3 w N k' z' e') N k' z' e' := by
  unfold put3
  refine ⟨?_, ?_, ?_, by simpa using h.lt, fun o => by simp only [World.frozen?_setCell]; exact h.fz o⟩
  · rw [World.cell?_setCell_other _ _ _ _ (by simp)]; rw [World.cell?_setCell_other _ _ _ _ (by simp)]; exact World.cell?_setCell_same _ _ _ h.c0
  · rw [World.cell?_setCell_other _ _ _ _ (by simp)]; exact World.cell?_setCell_same _ _ _ ((World.cell?_setCell_other _ _ _ _ (by simp)).trans h.c1)
  · exact World.cell?_setCell_same _ _ _ ((World.cell?_setCell_other _ _ _ _ (by simp)).trans ((World.cell?_setCell_other _ _ _ _ (by simp)).trans h.c2))
theorem put3_below {B : Nat} {w w' : World} (h : Below B w w') {N : Nat} (hN : B ≤ N) (k : Nat) (z : Nat) (e : Nat) : Below B w (put3 w' N k z e) := ((h.setCell hN _).setCell hN _).setCell hN _

/-- A body lies in block N. -/
structure Tw (w : World) (N : Nat) (k : Int) (z : Int) : Prop where
  c0 : w.cell? ⟨N, 0, none⟩ = some (.int .i64 k)
  c1 : w.cell? ⟨N, 1, none⟩ = some (.int .i64 z)
  lt : N < w.heap.size
  fz : ∀ o, w.frozen? ⟨N, o, none⟩ = false
theorem Tw.below {w w' : World} {N : Nat} {k : Int} {z : Int} (h : Tw w N k z) (hb : Below w.heap.size w w') : Tw w' N k z := by
  have hc : ∀ k, w'.cell? ⟨N, k, none⟩ = w.cell? ⟨N, k, none⟩ := fun k => hb.cell (p := ⟨N, k, none⟩) h.lt
  exact ⟨(hc 0).trans h.c0, (hc 1).trans h.c1, Nat.lt_of_lt_of_le h.lt hb.size, fun o => (hb.frozen (p := ⟨N, o, none⟩) h.lt).trans (h.fz o)⟩
theorem Tw.new (w : World) (k : Int) (z : Int) : Tw (w.alloc (.cells #[.int .i64 k, .int .i64 z] 24)) w.heap.size k z :=
  ⟨by rw [World.cell?_alloc_new]; rfl, by rw [World.cell?_alloc_new]; rfl, by simp, fun o => World.frozen?_alloc_new _ _ _ _⟩
theorem Tw.alloc {w : World} {N : Nat} {k : Int} {z : Int} (h : Tw w N k z) (o : Obj) : Tw (w.alloc o) N k z := h.below ((Below.refl _ _).alloc (Nat.le_refl _) o)
theorem Tw.drew {w : World} {N : Nat} {k : Int} {z : Int} (h : Tw w N k z) : Tw w.drew N k z := ⟨h.c0, h.c1, h.lt, h.fz⟩
theorem Tw.other {w : World} {N : Nat} {k : Int} {z : Int} (h : Tw w N k z) (M q : Nat) (v : Value) (hM : M ≠ N) : Tw (w.setCell ⟨M, q, none⟩ v) N k z := by
  have hc : ∀ j, (w.setCell ⟨M, q, none⟩ v).cell? ⟨N, j, none⟩ = w.cell? ⟨N, j, none⟩ := fun j => World.cell?_setCell_other _ _ _ _ (by simp [Ne.symm hM])
  exact ⟨(hc 0).trans h.c0, (hc 1).trans h.c1, by simpa using h.lt, fun o => by rw [World.frozen?_setCell]; exact h.fz o⟩
def put2 (w : World) (N : Nat) (k : Int) (z : Int) : World := (w.setCell ⟨N, 0, none⟩ (.int .i64 k)).setCell ⟨N, 1, none⟩ (.int .i64 z)
theorem put2_is {w : World} {N : Nat} {k : Int} {z : Int} (h : Tw w N k z) (k' : Int) (z' : Int) : Tw (put2 w N k' z') N k' z' := by
  unfold put2
  refine ⟨?_, ?_, by simpa using h.lt, fun o => by simp only [World.frozen?_setCell]; exact h.fz o⟩
  · rw [World.cell?_setCell_other _ _ _ _ (by simp)]; exact World.cell?_setCell_same _ _ _ h.c0
  · exact World.cell?_setCell_same _ _ _ ((World.cell?_setCell_other _ _ _ _ (by simp)).trans h.c1)
theorem put2_below {B : Nat} {w w' : World} (h : Below B w w') {N : Nat} (hN : B ≤ N) (k : Int) (z : Int) : Below B w (put2 w' N k z) := (h.setCell hN _).setCell hN _

set_option maxHeartbeats 1000000 in
theorem lengthSays_any (s : ByteArray) (w : World) (hs : s.size ≤ maxLen) :
    Calls Tryd.prog 65 #[.string s] w fun e w' => e = .returned (syV (lsF s)) ∧ Below w.heap.size w w' := by
  have hrd := fun w => readDec_any s w hs
  have hle := rdN_le 10 s.data.toList
  have hn0 : Th (w.alloc (.cells #[.int .i64 0, .int .u64 0, .int .i64 0] 56)) w.heap.size 0 0 0 := Th.new w 0 0 0
  have hbn := one_alloc w #[.int .i64 0, .int .u64 0, .int .i64 0] 56
  rcases ls_three s with ⟨h0, h1⟩ | ⟨h0, h1⟩ | ⟨h0, h1⟩
  all_goals
    have HR := hide h1
    rw [h0] at hrd
    clear h0 h1
    generalize rdN 10 s.data.toList = n at hrd hle HR
    go_enter Tryd.func65, Tryd.ntmps65
    go_wp2_with fail
    generalize w.alloc _ = W1 at hn0 hbn ⊢
    refine (hrd _).mono ?_
    rintro e w1 ⟨rfl, hb1⟩
    have hN := hn0.below hb1
    have hB := hbn.trans (hb1.mono hbn.size)
    obtain ⟨c0, c1, c2, -, cf⟩ := id hN
    go_wp2_with fail
  · refine bodyPost_ret (v := syV (1, n, 0)) (by simp [results, Tryd.results65, go_sem, syV, c0, c1, c2, cf]) rfl ⟨by rw [HR.out], ?_⟩
    exact put3_below hB (Nat.le_refl _) 1 n 0
  · refine bodyPost_ret (v := syV (0, 0, 32)) (by simp [results, Tryd.results65, go_sem, syV, c0, c1, c2, cf]) rfl ⟨by rw [HR.out], ?_⟩
    exact put3_below hB (Nat.le_refl _) 0 0 32
  · refine bodyPost_ret (v := syV (0, 0, 2)) (by simp [results, Tryd.results65, go_sem, syV, c0, c1, c2, cf]) rfl ⟨by rw [HR.out], ?_⟩
    exact put3_below hB (Nat.le_refl _) 0 0 2

end Go.Proofs.YtplanlhgcckioaaDoor
