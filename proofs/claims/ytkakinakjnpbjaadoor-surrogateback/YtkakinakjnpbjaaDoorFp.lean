/- Rows of words in memory: rows that can be read, rows that the call has made, one behind another. -/
import Derived.Test.YtkakinakjnpbjaaDoorWo
import Derived.Test.YtkakinakjnpbjaaDoorMb
import Derived.Laws.AppendOwn
import Derived.Lib.AppendZerosOnto
import Derived.RangeFuncNested
import Derived.RangeFuncBox
import Derived.Maps.AppendAt
import Derived.OpenShut
import Derived.Deep.SlicePairs
import Derived.ProofKit
namespace Go.Proofs.YtkakinakjnpbjaaDoor
set_option linter.unusedVariables false
set_option linter.unusedSimpArgs false
open Go.RowKit

theorem Tryd.info31 : (Tryd.prog.info? 31).map (fun i => (i.zero, i.size, i.bytes)) = some (some (.agg #[.string ⟨#[]⟩, .string ⟨#[]⟩, .string ⟨#[]⟩]), 3, 48) := by kernel_rfl
def bs (l : List UInt8) : ByteArray := ⟨l.toArray⟩
theorem bs_list (l : List UInt8) : (bs l).data.toList = l := by simp [bs]
theorem bs_size (l : List UInt8) : (bs l).size = l.length := by rw [← size_list, bs_list]
theorem bs_of {s : ByteArray} {l : List UInt8} (h : s.data.toList = l) : s = bs l := bytes_ext (by rw [h, bs_list])
/-- A word: its name, its value and its device. -/
abbrev Fd := ByteArray × ByteArray × ByteArray
def fv (f : Fd) : Value := .agg #[.string f.1, .string f.2.1, .string f.2.2]
/-- A row of fields that can be read. -/
def Row (w : World) (v : Value) (L : List Fd) : Prop := ∃ (a : Option Addr) (cap : Nat), v = .slice a L.length cap ∧ L.length ≤ cap ∧
  ∀ k (h : k < L.length), ∃ g off, a = some ⟨g, off, none⟩ ∧ g < w.heap.size ∧ w.cell? ⟨g, off + k * 3, none⟩ = some (.string L[k].1) ∧ w.cell? ⟨g, off + k * 3 + 1, none⟩ = some (.string L[k].2.1) ∧ w.cell? ⟨g, off + k * 3 + 2, none⟩ = some (.string L[k].2.2)
theorem Row.below {w w' : World} {v : Value} {L : List Fd} (h : Row w v L) (hb : Below w.heap.size w w') : Row w' v L := by
  obtain ⟨a, cap, h1, h2, h3⟩ := h
  refine ⟨a, cap, h1, h2, fun k hk => ?_⟩
  obtain ⟨g, off, e, hg, c0, c1, c2⟩ := h3 k hk
  exact ⟨g, off, e, Nat.lt_of_lt_of_le hg hb.size, ((stays hb).1 _ _ hg).trans c0, ((stays hb).1 _ _ hg).trans c1, ((stays hb).1 _ _ hg).trans c2⟩
theorem Row.nil (w : World) : Row w (.slice none 0 0) [] := ⟨none, 0, rfl, Nat.le_refl _, fun k hk => absurd hk (Nat.not_lt_zero _)⟩
/-- The place of the first one that is asked for. -/
def ixF (p : Fd → Bool) (L : List Fd) : Int := if L.any p then (L.findIdx p : Int) else -1
theorem ix_hit {p : Fd → Bool} {L : List Fd} {k : Nat} (h : k < L.length) (hp : p L[k] = true) (ha : ∀ f ∈ L.take k, p f = false) : ixF p L = k := by
  have h1 : L.any p = true := List.any_eq_true.2 ⟨_, List.getElem_mem h, hp⟩
  have h2 : L.findIdx p = k := by
    rw [List.findIdx_eq h]
    refine ⟨hp, fun j hj => ha _ ?_⟩
    rw [List.mem_take_iff_getElem]
    exact ⟨j, by omega, rfl⟩
  rw [ixF, if_pos h1, h2]
theorem ix_miss {p : Fd → Bool} {L : List Fd} (ha : ∀ f ∈ L, p f = false) : ixF p L = -1 := by
  have h1 : L.any p = false := List.any_eq_false.2 fun f hf => by rw [ha f hf]; decide
  rw [ixF, if_neg (by rw [h1]; decide)]
theorem take_next {α : Type} {L : List α} {k : Nat} (h : k < L.length) {p : α → Prop} (ha : ∀ f ∈ L.take k, p f) (hp : p L[k]) : ∀ f ∈ L.take (k + 1), p f := by
  intro f hf
  rw [List.take_succ_eq_append_getElem h] at hf
  rcases List.mem_append.1 hf with hf | hf
  · exact ha f hf
  · obtain rfl : f = L[k] := by simpa using hf
    exact hp
theorem ix_ge (p : Fd → Bool) (L : List Fd) : decide (0 ≤ ixF p L) = L.any p := by
  unfold ixF
  cases h : L.any p
  · simp
  · simp
theorem three_new (w : World) (x y z : Value) (t : TypeId) : ∀ j u, [x, y, z][j]? = some u → (w.alloc (.cells #[x, y, z] t)).cell? ((⟨w.heap.size, 0, none⟩ : Addr).add j) = some u := by
  intro j u hj
  rw [add_none, Nat.zero_add, World.cell?_alloc_new]
  simpa using hj
/-- Fields as cells. -/
def fcells (L : List Fd) : List Value := L.flatMap fun f => [.string f.1, .string f.2.1, .string f.2.2]
theorem fcells_length (L : List Fd) : (fcells L).length = L.length * 3 := by
  induction L with
  | nil => rfl
  | cons f L ih => rw [fcells, List.flatMap_cons, List.length_append, ← fcells, ih, List.length_cons]; simp; omega
theorem fcells_append (L M : List Fd) : fcells (L ++ M) = fcells L ++ fcells M := by simp [fcells]
theorem fcells_one (L : List Fd) : ∀ u ∈ fcells L, u.oneCell' = true := by
  intro u hu
  obtain ⟨f, _, hf⟩ := List.mem_flatMap.1 hu
  simp at hf
  rcases hf with rfl | rfl | rfl <;> rfl
theorem fcells_at (L : List Fd) : ∀ k (h : k < L.length), (fcells L)[k * 3]? = some (.string L[k].1) ∧ (fcells L)[k * 3 + 1]? = some (.string L[k].2.1) ∧ (fcells L)[k * 3 + 2]? = some (.string L[k].2.2) := by
  induction L with
  | nil => intro k h; simp at h
  | cons f L ih =>
    intro k h
    cases k with
    | zero => exact ⟨rfl, rfl, rfl⟩
    | succ k =>
      have := ih k (by simpa using h)
      rw [show (k + 1) * 3 = k * 3 + 3 by omega]
      exact this
/-- A row of fields that a call has made. -/
def Own (w : World) (base : Nat) (v : Value) (L : List Fd) : Prop := w.ownsRow base 31 3 v L.length (fcells L)
theorem Own.row {w : World} {base : Nat} {v : Value} {L : List Fd} (h : Own w base v L) : Row w v L := by
  rcases h.2 with ⟨rfl, h0⟩ | ⟨g, cap, cur, rfl, h2, h3, h4, h5, h6, h7⟩
  · exact ⟨none, 0, by rw [h0], by omega, fun k hk => by omega⟩
  · refine ⟨some ⟨g, 0, none⟩, cap, rfl, h4, fun k hk => ⟨g, 0, rfl, (Array.getElem?_eq_some_iff.1 h3).1, ?_, ?_, ?_⟩⟩
    · rw [Nat.zero_add, cell_of_row w g _ cur 31 (0, 0) h3]
      have := (fcells_at L k hk).1
      rw [← h7, List.getElem?_take, if_pos (by omega)] at this
      simpa using this
    · rw [Nat.zero_add, cell_of_row w g _ cur 31 (0, 0) h3]
      have := (fcells_at L k hk).2.1
      rw [← h7, List.getElem?_take, if_pos (by omega)] at this
      simpa using this
    · rw [Nat.zero_add, cell_of_row w g _ cur 31 (0, 0) h3]
      have := (fcells_at L k hk).2.2
      rw [← h7, List.getElem?_take, if_pos (by omega)] at this
      simpa using this
theorem Own.below {w w' : World} {base : Nat} {v : Value} {L : List Fd} (h : Own w base v L) (hb : Below w.heap.size w w') : Own w' base v L := owns_below h hb
theorem fst_one (f : Fd) : ∀ u ∈ [Value.string f.1, .string f.2.1, .string f.2.2], u.oneCell' = true := fcells_one [f]
theorem run_append_owned_zero {P : Program} {w : World} (base : Nat) (t ty e : TypeId) (i : TypeInfo) (size : Nat) (ht : P.underlying t = some (.slice e)) (hi : P.info? e = some i)
    (v : Value) (n : Nat) (xs : List Value) (hown : w.ownsRow base e size v n xs) (a : Option Addr) (c : Nat) :
    (Builtin.append_ #[t, t] ty #[v, .slice a 0 c]).run P w = .ok v w := by
  have hl : ∀ (x : Addr), (loadCells x 0).run P w = .ok #[] w := fun x => by simpa using run_loadCells_list (P := P) w x [] (by simp)
  rcases hown.2 with ⟨rfl, rfl⟩ | ⟨g, cap, cur, rfl, _, _, hnc, _⟩
  · cases a <;> simp [Builtin.append_, run_underlying ht, sizeOf, typeInfo, hi, Builtin.lenOf, Builtin.firstCells, hl]
  · cases a <;> simp [Builtin.append_, run_underlying ht, sizeOf, typeInfo, hi, Builtin.lenOf, Builtin.firstCells, hnc, storeCells, hl]
theorem grownBy_refl (w : World) (row : Option Nat) : w.grownBy w row := ⟨rfl, rfl, rfl, Nat.le_refl _, fun _ _ _ => rfl⟩
/-- The cells of a row that can be read. -/
theorem row_cells {w : World} {g off cap : Nat} {L : List Fd} (h : ∀ k (h : k < L.length), ∃ g' off', (some ⟨g, off, none⟩ : Option Addr) = some ⟨g', off', none⟩ ∧ g' < w.heap.size ∧ w.cell? ⟨g', off' + k * 3, none⟩ = some (.string L[k].1) ∧ w.cell? ⟨g', off' + k * 3 + 1, none⟩ = some (.string L[k].2.1) ∧ w.cell? ⟨g', off' + k * 3 + 2, none⟩ = some (.string L[k].2.2)) :
    ∀ j u, (fcells L)[j]? = some u → w.cell? ((⟨g, off, none⟩ : Addr).add j) = some u := by
  intro j u hj
  have hjl : j < L.length * 3 := by
    have := (List.getElem?_eq_some_iff.1 hj).1
    rwa [fcells_length] at this
  have hk : j / 3 < L.length := by omega
  obtain ⟨g', off', he, -, c0, c1, c2⟩ := h (j / 3) hk
  cases he
  have hf := fcells_at L (j / 3) hk
  rw [add_none]
  rcases (show j = j / 3 * 3 ∨ j = j / 3 * 3 + 1 ∨ j = j / 3 * 3 + 2 by omega) with e | e | e
  · rw [e, hf.1] at hj
    rw [e, c0, ← hj]
  · rw [e, hf.2.1] at hj
    rw [e, show off + (j / 3 * 3 + 1) = off + j / 3 * 3 + 1 by omega, c1, ← hj]
  · rw [e, hf.2.2] at hj
    rw [e, show off + (j / 3 * 3 + 2) = off + j / 3 * 3 + 2 by omega, c2, ← hj]
/-- One row is put behind another one, which the call has made. -/
theorem wpList_append_Row {w : World} {ops : Array Oper} {rest : List Oper} {o : Oper} {a : Act} {Q : Exit → Act → World → Prop} (hgd : o.guard = none) (s x : Operand)
    (ho : o.op = .call { callee := .builtin .append, args := #[s, x], argTypes := #[23, 23] }) (base : Nat) (v vx : Value) (D L : List Fd) (hs : a.eval s = v) (hx : a.eval x = vx)
    (hown : Own w base v D) (hrow : Row w vx L) (hl : D.length + L.length ≤ 1000000) (hbase : base ≤ w.heap.size)
    (h : ∀ v' w', Own w' base v' (D ++ L) → w.grownBy w' v.ownBlock → wpList Tryd.prog ops Q rest (a.put o.dst v') w') :
    wpList Tryd.prog ops Q (o :: rest) a w := by
  obtain ⟨i0, hi0, hz0, hz1, hz2⟩ := info_parts Tryd.info31
  obtain ⟨b, cap, rfl, hcap, hR⟩ := hrow
  by_cases h0 : L.length = 0
  · obtain rfl : L = [] := List.eq_nil_of_length_eq_zero h0
    refine wpList_plain hgd fun K hK => ?_
    have hrun := run_append_owned_zero (P := Tryd.prog) (w := w) base 23 o.type 31 i0 3 Tryd.underlying23 hi0 v D.length (fcells D) hown b cap
    unfold Oper.wp
    simp [execOp, ho, resolve, invoke, builtin, hs, hx, hrun, Result.andThen]
    exact hK _ _ (h v w (by rw [List.append_nil]; exact hown) (grownBy_refl _ _))
  · obtain ⟨g, off, rfl, -, -⟩ := hR 0 (by omega)
    refine wpList_append_own _ hgd s x 23 ho base 31 i0 _ 3 48 Tryd.underlying23 hi0 hz0 hz1 hz2 rfl (by decide) v D.length (fcells D) hs hown ⟨g, off, none⟩ L.length cap (fcells L) hx (fcells_length L) (row_cells (cap := cap) hR) (fcells_one L) (maxLen_of (by omega)) (by omega) hbase ?_
    intro v' w' h1 h2 _
    refine h v' w' ?_ h2
    unfold Own
    rw [List.length_append, fcells_append]
    exact h1
theorem own_block {w : World} {base : Nat} {v : Value} {L : List Fd} (h : Own w base v L) : ∀ k, v.ownBlock = some k → base ≤ k := fun k hk => (World.ownsRow.lt h k hk).1
theorem Row.grown {w w' : World} {v u : Value} {L : List Fd} (h : Row w v L) (hg : w.grownBy w' u.ownBlock) (hu : ∀ g off cap, v = .slice (some ⟨g, off, none⟩) L.length cap → u.ownBlock ≠ some g) : Row w' v L := by
  obtain ⟨a, cap, rfl, h2, h3⟩ := h
  refine ⟨a, cap, rfl, h2, fun k hk => ?_⟩
  obtain ⟨g, off, rfl, hlt, c0, c1, c2⟩ := h3 k hk
  have hb := hg.block g hlt (fun e => hu g off cap rfl e.symm)
  exact ⟨g, off, rfl, Nat.lt_of_lt_of_le hlt hg.size, (World.cell?_of_block (w := w) (a := ⟨g, off + k * 3, none⟩) hb).trans c0, (World.cell?_of_block (w := w) (a := ⟨g, off + k * 3 + 1, none⟩) hb).trans c1, (World.cell?_of_block (w := w) (a := ⟨g, off + k * 3 + 2, none⟩) hb).trans c2⟩
theorem Row.slice {w : World} {v : Value} {L : List Fd} (h : Row w v L) : ∃ a cap, v = .slice a L.length cap := by
  obtain ⟨a, cap, rfl, -⟩ := h; exact ⟨a, cap, rfl⟩
theorem row_one {w : World} {B : Nat} {f : Fd} (h0 : w.cell? ⟨B, 0, none⟩ = some (.string f.1)) (h1 : w.cell? ⟨B, 1, none⟩ = some (.string f.2.1)) (h2 : w.cell? ⟨B, 2, none⟩ = some (.string f.2.2)) : Row w (.slice (some ⟨B, 0, none⟩) 1 1) [f] := by
  refine ⟨some ⟨B, 0, none⟩, 1, rfl, Nat.le_refl _, fun k hk => ⟨B, 0, rfl, block_lt_of_cell (a := ⟨B, 0, none⟩) h0, ?_, ?_, ?_⟩⟩
  · obtain rfl : k = 0 := by simp at hk; omega
    simpa using h0
  · obtain rfl : k = 0 := by simp at hk; omega
    simpa using h1
  · obtain rfl : k = 0 := by simp at hk; omega
    simpa using h2
theorem boxed_below {W W' : World} {B n₀ : Nat} {t : TypeId} {v : Value} (h : Boxed W B t v) (hb : Below W.heap.size W W') : Boxed W' B t v := (hb.block B h.lt).trans h
theorem keeps_below {W W' : World} (h : Below W.heap.size W W') : KeepsOthers W W' := ⟨h.size, fun k o hk _ => (h.block k (Array.getElem?_eq_some_iff.1 hk).1).trans hk⟩
theorem put_box {W : World} {B D : Nat} {t : TypeId} {v : Value} {o o' : Obj} (h : Boxed W B t v) (hK : W.heap[D]? = some o) (ho : o.isCells = false) : Boxed (W.putObj D o') B t v := by
  have hne : D ≠ B := fun e => by subst e; rw [show W.heap[D]? = _ from h] at hK; cases hK; cases ho
  exact (World.putObj_heap_other (fun e => hne e.symm)).trans h
theorem bs_toList (l : List UInt8) : (bs l).toList = l := by rw [ByteArray.toList_eq, bs_list]
theorem boxed_grown {W W' : World} {row : Option Nat} {B : Nat} {t : TypeId} {v : Value} (h : Boxed W B t v) (hg : W.grownBy W' row) (hr : ∀ r, row = some r → ∃ o : Obj, W.heap[r]? = some o ∧ o.isCells = false) : Boxed W' B t v :=
  h.kept hg (fun e => by obtain ⟨o, ho, hc⟩ := hr B e.symm; rw [show W.heap[B]? = _ from h] at ho; cases ho; cases hc)
theorem own_set {W : World} {base B : Nat} {t e : TypeId} {size k : Nat} {u v z : Value} {xs : List Value} (h : Boxed W B t u) (hte : t ≠ e) (hr : W.ownsRow base e size v k xs) : (W.setCell ⟨B, 0, none⟩ z).ownsRow base e size v k xs :=
  hr.kept (grownBy_setCell' W B z) (Or.inr (fun e' => Boxed.not_row h hte hr e'.symm))

end Go.Proofs.YtkakinakjnpbjaaDoor
