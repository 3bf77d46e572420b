/- The walks of the functions that are handed in to choose fields and values. -/
import Derived.Test.YtojoidhjlbcijaaDoorWk
namespace Go.Proofs.YtojoidhjlbcijaaDoor
set_option linter.unusedVariables false
set_option linter.unusedSimpArgs false
set_option maxRecDepth 100000
open Go.RowKit

theorem keepS {B : Nat} {W0 W w' : World} {M S N : Nat} {f : Fd} {fn n : Value} (hb : Below W.heap.size W w') (hB : B ≤ W0.heap.size) (hM : M < B) (hS : S < B) (hN : N < B)
    (h : Below B W0 W ∧ W.cell? ⟨M, 0, none⟩ = some (.string f.1) ∧ W.cell? ⟨M, 1, none⟩ = some (.string f.2) ∧ W.cell? ⟨S, 0, none⟩ = some fn ∧ W.cell? ⟨N, 0, none⟩ = some n) :
    Below B W0 w' ∧ w'.cell? ⟨M, 0, none⟩ = some (.string f.1) ∧ w'.cell? ⟨M, 1, none⟩ = some (.string f.2) ∧ w'.cell? ⟨S, 0, none⟩ = some fn ∧ w'.cell? ⟨N, 0, none⟩ = some n := by
  obtain ⟨h1, h2, h3, h4, h5⟩ := h
  have hs := Nat.le_trans hB h1.size
  exact ⟨h1.trans (hb.mono hs), ((stays hb).1 _ _ (by omega)).trans h2, ((stays hb).1 _ _ (by omega)).trans h3, ((stays hb).1 _ _ (by omega)).trans h4, ((stays hb).1 _ _ (by omega)).trans h5⟩
theorem keepC {B : Nat} {W0 W : World} {M S N R o : Nat} {f : Fd} {fn n u : Value} (hB : B ≤ W0.heap.size) (hM : M < B) (hS : S < B) (hN : N < B) (hR : B ≤ R)
    (h : Below B W0 W ∧ W.cell? ⟨M, 0, none⟩ = some (.string f.1) ∧ W.cell? ⟨M, 1, none⟩ = some (.string f.2) ∧ W.cell? ⟨S, 0, none⟩ = some fn ∧ W.cell? ⟨N, 0, none⟩ = some n) :
    Below B W0 (W.setCell ⟨R, o, none⟩ u) ∧ (W.setCell ⟨R, o, none⟩ u).cell? ⟨M, 0, none⟩ = some (.string f.1) ∧ (W.setCell ⟨R, o, none⟩ u).cell? ⟨M, 1, none⟩ = some (.string f.2) ∧ (W.setCell ⟨R, o, none⟩ u).cell? ⟨S, 0, none⟩ = some fn ∧ (W.setCell ⟨R, o, none⟩ u).cell? ⟨N, 0, none⟩ = some n := by
  obtain ⟨h1, h2, h3, h4, h5⟩ := h
  have hb : Below B W (W.setCell ⟨R, o, none⟩ u) := (Below.refl _ _).setCell hR u
  exact ⟨h1.trans hb, (hb.cell (p := ⟨M, 0, none⟩) hM).trans h2, (hb.cell (p := ⟨M, 1, none⟩) hM).trans h3, (hb.cell (p := ⟨S, 0, none⟩) hS).trans h4, (hb.cell (p := ⟨N, 0, none⟩) hN).trans h5⟩

set_option maxHeartbeats 4000000 in
theorem remove1_any (f : Fd) (n : ByteArray) (N S : Nat) (w : World) (h1 : f.1.size ≤ 1000000) (h2 : n.size ≤ 1000000) (hc : w.cell? ⟨N, 0, none⟩ = some (.string n))
    (hs : w.cell? ⟨S, 0, none⟩ = some (.func (.func 63) #[] #[.pointer (some ⟨N, 0, none⟩)])) :
    Calls Tryd.prog 52 #[fv f, .pointer (some ⟨S, 0, none⟩)] w fun e w' => e = .returned (.tuple #[fv f, .bool (!nm n f)]) ∧ Below w.heap.size w w' := by
  have hN : N < w.heap.size := block_lt_of_cell (a := ⟨N, 0, none⟩) hc
  have hS : S < w.heap.size := block_lt_of_cell (a := ⟨S, 0, none⟩) hs
  unfold fv
  go_enter Tryd.func52, Tryd.ntmps52
  go_wp2_with fail
  have hbA : Below w.heap.size w ((w.alloc (.cells #[.string f.1, .string f.2] 39)).alloc (.cells #[.string ⟨#[]⟩, .string ⟨#[]⟩] 39)) := (one_alloc _ _ _).alloc (by simp) _
  have a0 : ((w.alloc (.cells #[.string f.1, .string f.2] 39)).alloc (.cells #[.string ⟨#[]⟩, .string ⟨#[]⟩] 39)).cell? ⟨w.heap.size, 0, none⟩ = some (.string f.1) := by go_simp
  have a1 : ((w.alloc (.cells #[.string f.1, .string f.2] 39)).alloc (.cells #[.string ⟨#[]⟩, .string ⟨#[]⟩] 39)).cell? ⟨w.heap.size, 1, none⟩ = some (.string f.2) := by go_simp
  have n0 := ((stays hbA).1 N 0 hN).trans hc
  have s0 := ((stays hbA).1 S 0 hS).trans hs
  have r0 : ((w.alloc (.cells #[.string f.1, .string f.2] 39)).alloc (.cells #[.string ⟨#[]⟩, .string ⟨#[]⟩] 39)).cell? ⟨w.heap.size + 1, 0, none⟩ = some (.string ⟨#[]⟩) := by go_simp
  have r1 : ((w.alloc (.cells #[.string f.1, .string f.2] 39)).alloc (.cells #[.string ⟨#[]⟩, .string ⟨#[]⟩] 39)).cell? ⟨w.heap.size + 1, 1, none⟩ = some (.string ⟨#[]⟩) := by go_simp
  have rf : ∀ o, ((w.alloc (.cells #[.string f.1, .string f.2] 39)).alloc (.cells #[.string ⟨#[]⟩, .string ⟨#[]⟩] 39)).frozen? ⟨w.heap.size + 1, o, none⟩ = false := by intro o; go_simp
  have hz : w.heap.size + 2 = ((w.alloc (.cells #[.string f.1, .string f.2] 39)).alloc (.cells #[.string ⟨#[]⟩, .string ⟨#[]⟩] 39)).heap.size := by simp
  have hz1 : w.heap.size + 1 < ((w.alloc (.cells #[.string f.1, .string f.2] 39)).alloc (.cells #[.string ⟨#[]⟩, .string ⟨#[]⟩] 39)).heap.size := by omega
  generalize ((w.alloc (.cells #[.string f.1, .string f.2] 39)).alloc (.cells #[.string ⟨#[]⟩, .string ⟨#[]⟩] 39)) = w1 at *
  go_region_held3 (fun w' => Below (w.heap.size + 1) w1 w' ∧ w'.cell? ⟨w.heap.size, 0, none⟩ = some (.string f.1) ∧ w'.cell? ⟨w.heap.size, 1, none⟩ = some (.string f.2) ∧ w'.cell? ⟨S, 0, none⟩ = some (.func (.func 63) #[] #[.pointer (some ⟨N, 0, none⟩)]) ∧ w'.cell? ⟨N, 0, none⟩ = some (.string n))
    (first | exact ⟨(Below.refl _ _).drew, a0, a1, s0, n0⟩ | assumption | exact keepS (by assumption) (by omega) (by omega) (by omega) (by omega) (by assumption) | exact keepC (by omega) (by omega) (by omega) (by omega) (Nat.le_refl _) (keepC (by omega) (by omega) (by omega) (by omega) (Nat.le_refl _) (by assumption)))
    (first | (go_at_call 63; refine (named1_any f n N w1.drew h1 h2 n0).mono ?_; rintro e w2 ⟨rfl, hb2⟩; have z0 := (hb2.cell (p := ⟨w.heap.size + 1, 0, none⟩) hz1).trans r0; have z1 := (hb2.cell (p := ⟨w.heap.size + 1, 1, none⟩) hz1).trans r1; have zf : ∀ o, w2.frozen? ⟨w.heap.size + 1, o, none⟩ = false := fun o => (hb2.frozen (p := ⟨w.heap.size + 1, o, none⟩) hz1).trans (rf o)))
  rename_i hX
  go_wp2_with fail
  refine bodyPost_ret (v := .tuple #[.agg #[.string f.1, .string f.2], .bool (!nm n f)]) (by simp [results, Tryd.results52, go_sem, z0, z1]) rfl ⟨rfl, ?_⟩
  exact hbA.trans (hX.1.mono (by omega))

set_option maxHeartbeats 4000000 in
theorem all1_any (f : Fd) (n : ByteArray) (N S : Nat) (w : World) (h1 : f.1.size ≤ 1000000) (h2 : n.size ≤ 1000000) (hc : w.cell? ⟨N, 0, none⟩ = some (.string n))
    (hs : w.cell? ⟨S, 0, none⟩ = some (.func (.func 63) #[] #[.pointer (some ⟨N, 0, none⟩)])) :
    Calls Tryd.prog 68 #[fv f, .pointer (some ⟨S, 0, none⟩)] w fun e w' => e = .returned (.tuple #[.string f.2, .bool (nm n f)]) ∧ Below w.heap.size w w' := by
  have hN : N < w.heap.size := block_lt_of_cell (a := ⟨N, 0, none⟩) hc
  have hS : S < w.heap.size := block_lt_of_cell (a := ⟨S, 0, none⟩) hs
  unfold fv
  go_enter Tryd.func68, Tryd.ntmps68
  go_wp2_with fail
  have hbA : Below w.heap.size w (w.alloc (.cells #[.string f.1, .string f.2] 39)) := one_alloc _ _ _
  have a0 : (w.alloc (.cells #[.string f.1, .string f.2] 39)).cell? ⟨w.heap.size, 0, none⟩ = some (.string f.1) := by go_simp
  have a1 : (w.alloc (.cells #[.string f.1, .string f.2] 39)).cell? ⟨w.heap.size, 1, none⟩ = some (.string f.2) := by go_simp
  have n0 := ((stays hbA).1 N 0 hN).trans hc
  have s0 := ((stays hbA).1 S 0 hS).trans hs
  have hz : w.heap.size + 1 = (w.alloc (.cells #[.string f.1, .string f.2] 39)).heap.size := by simp
  generalize (w.alloc (.cells #[.string f.1, .string f.2] 39)) = w1 at *
  go_region_held3 (fun w' => Below (w.heap.size + 1) w1 w' ∧ w'.cell? ⟨w.heap.size, 0, none⟩ = some (.string f.1) ∧ w'.cell? ⟨w.heap.size, 1, none⟩ = some (.string f.2) ∧ w'.cell? ⟨S, 0, none⟩ = some (.func (.func 63) #[] #[.pointer (some ⟨N, 0, none⟩)]) ∧ w'.cell? ⟨N, 0, none⟩ = some (.string n))
    (first | exact ⟨(Below.refl _ _).drew, a0, a1, s0, n0⟩ | assumption | exact keepS (by assumption) (by omega) (by omega) (by omega) (by omega) (by assumption))
    (first | (go_at_call 63; refine (named1_any f n N w1.drew h1 h2 n0).mono ?_; rintro e w2 ⟨rfl, hb2⟩))
  rename_i hX
  go_wp2_with fail
  go_ret2
  exact ⟨rfl, hbA.trans (hX.1.mono (by omega))⟩

/-- Fields as cells. -/
def fcells (L : List Fd) : List Value := L.flatMap fun f => [.string f.1, .string f.2]
theorem fcells_length (L : List Fd) : (fcells L).length = L.length * 2 := by
  induction L with
  | nil => rfl
  | cons f L ih => rw [fcells, List.flatMap_cons, List.length_append, ← fcells, ih, List.length_cons]; simp; omega
theorem fcells_append (L M : List Fd) : fcells (L ++ M) = fcells L ++ fcells M := by simp [fcells]
theorem fcells_one (L : List Fd) : ∀ u ∈ fcells L, u.oneCell' = true := by
  intro u hu
  obtain ⟨f, _, hf⟩ := List.mem_flatMap.1 hu
  simp at hf
  rcases hf with rfl | rfl <;> rfl
theorem fcells_at (L : List Fd) : ∀ k (h : k < L.length), (fcells L)[k * 2]? = some (.string L[k].1) ∧ (fcells L)[k * 2 + 1]? = some (.string L[k].2) := by
  induction L with
  | nil => intro k h; simp at h
  | cons f L ih =>
    intro k h
    cases k with
    | zero => exact ⟨rfl, rfl⟩
    | succ k =>
      have := ih k (by simpa using h)
      rw [show (k + 1) * 2 = k * 2 + 2 by omega]
      exact this

theorem Tryd.info25 : (Tryd.prog.info? 39).map (fun i => (i.zero, i.size, i.bytes)) = some (some (.agg #[.string ⟨#[]⟩, .string ⟨#[]⟩]), 2, 32) := by kernel_rfl

/-- A row of fields that a call has made. -/
def Own (w : World) (base : Nat) (v : Value) (L : List Fd) : Prop := w.ownsRow base 39 2 v L.length (fcells L)
theorem Own.row {w : World} {base : Nat} {v : Value} {L : List Fd} (h : Own w base v L) : Row w v L := by
  rcases h.2 with ⟨rfl, h0⟩ | ⟨g, cap, cur, rfl, h2, h3, h4, h5, h6, h7⟩
  · exact ⟨none, 0, by rw [h0], by omega, fun k hk => by omega⟩
  · refine ⟨some ⟨g, 0, none⟩, cap, rfl, h4, fun k hk => ⟨g, 0, rfl, (Array.getElem?_eq_some_iff.1 h3).1, ?_, ?_⟩⟩
    · rw [Nat.zero_add, cell_of_row w g _ cur 39 (0, 0) h3]
      have := (fcells_at L k hk).1
      rw [← h7, List.getElem?_take, if_pos (by omega)] at this
      simpa using this
    · rw [Nat.zero_add, cell_of_row w g _ cur 39 (0, 0) h3]
      have := (fcells_at L k hk).2
      rw [← h7, List.getElem?_take, if_pos (by omega)] at this
      simpa using this
theorem Own.below {w w' : World} {base : Nat} {v : Value} {L : List Fd} (h : Own w base v L) (hb : Below w.heap.size w w') : Own w' base v L := owns_below h hb
theorem Own.alloc {w : World} {base : Nat} {v : Value} {L : List Fd} (h : Own w base v L) (o : Obj) : Own (w.alloc o) base v L := h.below ((Below.refl _ _).alloc (Nat.le_refl _) o)
theorem Own.nil (w : World) (base : Nat) : Own w base (.slice none 0 0) [] := World.ownsRow_nil _ _ _ _
theorem Own.mono {w : World} {b b' : Nat} {v : Value} {L : List Fd} (h : Own w b v L) (hb : b' ≤ b) : Own w b' v L := by
  refine ⟨h.1, ?_⟩
  rcases h.2 with h | ⟨g, cap, cur, h1, h2, h3⟩
  · exact Or.inl h
  · exact Or.inr ⟨g, cap, cur, h1, by omega, h3⟩
theorem two_new (w : World) (x y : Value) (t : TypeId) : ∀ j u, [x, y][j]? = some u → (w.alloc (.cells #[x, y] t)).cell? ((⟨w.heap.size, 0, none⟩ : Addr).add j) = some u := by
  intro j u hj
  rw [add_none, Nat.zero_add, World.cell?_alloc_new]
  simpa using hj
theorem fst_one (f : Fd) : ∀ u ∈ [Value.string f.1, .string f.2], u.oneCell' = true := fcells_one [f]

end Go.Proofs.YtojoidhjlbcijaaDoor
