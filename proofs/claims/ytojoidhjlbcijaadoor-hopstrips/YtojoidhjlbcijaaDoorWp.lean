/- The walks of what adds a field: the program's, by the library's joining of rows, and the document's own. -/
import Derived.Test.YtojoidhjlbcijaaDoorWo
import Derived.Laws.AppendOwn
import Derived.Lib.AppendZerosOnto
namespace Go.Proofs.YtojoidhjlbcijaaDoor
set_option linter.unusedVariables false
set_option linter.unusedSimpArgs false
set_option maxRecDepth 100000
open Go.RowKit

theorem run_append_owned_zero {P : Program} {w : World} (base : Nat) (t ty e : TypeId) (i : TypeInfo) (size : Nat) (ht : P.underlying t = some (.slice e)) (hi : P.info? e = some i)
    (v : Value) (n : Nat) (xs : List Value) (hown : w.ownsRow base e size v n xs) (a : Option Addr) (c : Nat) :
    (Builtin.append_ #[t, t] ty #[v, .slice a 0 c]).run P w = .ok v w := by
  have hl : ∀ (x : Addr), (loadCells x 0).run P w = .ok #[] w := fun x => by simpa using run_loadCells_list (P := P) w x [] (by simp)
  rcases hown.2 with ⟨rfl, rfl⟩ | ⟨g, cap, cur, rfl, _, _, hnc, _⟩
  · cases a <;> simp [Builtin.append_, run_underlying ht, sizeOf, typeInfo, hi, Builtin.lenOf, Builtin.firstCells, hl]
  · cases a <;> simp [Builtin.append_, run_underlying ht, sizeOf, typeInfo, hi, Builtin.lenOf, Builtin.firstCells, hnc, storeCells, hl]

theorem grownBy_refl (w : World) (row : Option Nat) : w.grownBy w row := ⟨rfl, rfl, rfl, Nat.le_refl _, fun _ _ _ => rfl⟩

/-- The cells of a row that can be read. -/
theorem row_cells {w : World} {g off cap : Nat} {L : List Fd} (h : ∀ k (h : k < L.length), ∃ g' off', (some ⟨g, off, none⟩ : Option Addr) = some ⟨g', off', none⟩ ∧ g' < w.heap.size ∧ w.cell? ⟨g', off' + k * 2, none⟩ = some (.string L[k].1) ∧ w.cell? ⟨g', off' + k * 2 + 1, none⟩ = some (.string L[k].2)) :
    ∀ j u, (fcells L)[j]? = some u → w.cell? ((⟨g, off, none⟩ : Addr).add j) = some u := by
  intro j u hj
  have hjl : j < L.length * 2 := by
    have := (List.getElem?_eq_some_iff.1 hj).1
    rwa [fcells_length] at this
  have hk : j / 2 < L.length := by omega
  obtain ⟨g', off', he, -, c0, c1⟩ := h (j / 2) hk
  cases he
  have hf := fcells_at L (j / 2) hk
  rw [add_none]
  by_cases hm : j % 2 = 0
  · have e : j = j / 2 * 2 := by omega
    rw [e, hf.1] at hj
    rw [e, c0, ← hj]
  · have e : j = j / 2 * 2 + 1 := by omega
    rw [e, hf.2] at hj
    rw [e, show off + (j / 2 * 2 + 1) = off + j / 2 * 2 + 1 by omega, c1, ← hj]

/-- One row is put behind another one, which the call has made. -/
theorem wpList_append_Row {w : World} {ops : Array Oper} {rest : List Oper} {o : Oper} {a : Act} {Q : Exit → Act → World → Prop} (hgd : o.guard = none) (s x : Operand)
    (ho : o.op = .call { callee := .builtin .append, args := #[s, x], argTypes := #[24, 24] }) (base : Nat) (v vx : Value) (D L : List Fd) (hs : a.eval s = v) (hx : a.eval x = vx)
    (hown : Own w base v D) (hrow : Row w vx L) (hl : D.length + L.length ≤ 1000000) (hbase : base ≤ w.heap.size)
    (h : ∀ v' w', Own w' base v' (D ++ L) → w.grownBy w' v.ownBlock → wpList Tryd.prog ops Q rest (a.put o.dst v') w') :
    wpList Tryd.prog ops Q (o :: rest) a w := by
  obtain ⟨i0, hi0, hz0, hz1, hz2⟩ := info_parts Tryd.info25
  obtain ⟨b, cap, rfl, hcap, hR⟩ := hrow
  by_cases h0 : L.length = 0
  · obtain rfl : L = [] := List.eq_nil_of_length_eq_zero h0
    refine wpList_plain hgd fun K hK => ?_
    have hrun := run_append_owned_zero (P := Tryd.prog) (w := w) base 24 o.type 39 i0 2 Tryd.underlying24 hi0 v D.length (fcells D) hown b cap
    unfold Oper.wp
    simp [execOp, ho, resolve, invoke, builtin, hs, hx, hrun, Result.andThen]
    exact hK _ _ (h v w (by rw [List.append_nil]; exact hown) (grownBy_refl _ _))
  · obtain ⟨g, off, rfl, -, -⟩ := hR 0 (by omega)
    refine wpList_append_own _ hgd s x 24 ho base 39 i0 _ 2 32 Tryd.underlying24 hi0 hz0 hz1 hz2 rfl (by decide) v D.length (fcells D) hs hown ⟨g, off, none⟩ L.length cap (fcells L) hx (fcells_length L) (row_cells (cap := cap) hR) (fcells_one L) (maxLen_of (by omega)) (by omega) hbase ?_
    intro v' w' h1 h2 _
    refine h v' w' ?_ h2
    unfold Own
    rw [List.length_append, fcells_append]
    exact h1

theorem own_block {w : World} {base : Nat} {v : Value} {L : List Fd} (h : Own w base v L) : ∀ k, v.ownBlock = some k → base ≤ k := fun k hk => (World.ownsRow.lt h k hk).1
theorem Row.grown {w w' : World} {v u : Value} {L : List Fd} (h : Row w v L) (hg : w.grownBy w' u.ownBlock) (hu : ∀ g off cap, v = .slice (some ⟨g, off, none⟩) L.length cap → u.ownBlock ≠ some g) : Row w' v L := by
  obtain ⟨a, cap, rfl, h2, h3⟩ := h
  refine ⟨a, cap, rfl, h2, fun k hk => ?_⟩
  obtain ⟨g, off, rfl, hlt, c0, c1⟩ := h3 k hk
  have hb := hg.block g hlt (fun e => hu g off cap rfl e.symm)
  exact ⟨g, off, rfl, Nat.lt_of_lt_of_le hlt hg.size, (World.cell?_of_block (w := w) (a := ⟨g, off + k * 2, none⟩) hb).trans c0, (World.cell?_of_block (w := w) (a := ⟨g, off + k * 2 + 1, none⟩) hb).trans c1⟩

set_option maxHeartbeats 1000000 in
theorem grow_any (m : Nat) (w : World) (h0 : 0 < m) (hm : m ≤ 1000000) :
    Calls Tryd.prog 77 #[.slice none 0 0, .int .i64 m] w fun e w' => ∃ r, e = .returned r ∧ Own w' w.heap.size r [] ∧ Below w.heap.size w w' := by
  obtain ⟨i0, hi0, hz0, hz1, hz2⟩ := info_parts Tryd.info25
  have hrz : ∀ ty, (Builtin.append_ #[24, 3] ty #[.slice none 0 0, .int .i64 (m : Int)]).run Tryd.prog w =
      .ok (.slice (some ⟨w.heap.size, 0, none⟩) m (grownCap w m 0 39)) (w.drew.alloc (.cells (Builtin.zeroCells (Value.agg #[.string ⟨#[]⟩, .string ⟨#[]⟩]).cells m ++ Builtin.zeroCells (Value.agg #[.string ⟨#[]⟩, .string ⟨#[]⟩]).cells (grownCap w m 0 39 - m)) 39)) := fun ty =>
    Lib.run_append_nil_zeros w 24 3 ty 39 i0 _ .i64 .i64 Tryd.underlying24 Tryd.underlying3 hi0 hz0 m h0 (by omega) (by omega) (by rw [hz2]; omega)
  have hge := grownCap_ge w m 0 39
  have hle := grownCap_le_maxLen w m 0 39 (maxLen_of (by omega))
  have hmax : maxLen ≤ 9223372036854775807 := by unfold maxLen; omega
  generalize grownCap w m 0 39 = G at hrz hge hle
  obtain ⟨ROW, hROW⟩ : ∃ ROW, Builtin.zeroCells (Value.agg #[.string ⟨#[]⟩, .string ⟨#[]⟩]).cells m ++ Builtin.zeroCells (Value.agg #[.string ⟨#[]⟩, .string ⟨#[]⟩]).cells (G - m) = ROW := ⟨_, rfl⟩
  have hsz : ROW.size = G * 2 := by
    rw [← hROW]; simp [Builtin.zeroCells, Value.cells]; omega
  rw [hROW] at hrz
  clear hROW
  have hmz : (0 : Int) < m := by omega
  have HO : Hid (Own (w.drew.alloc (.cells ROW 39)) w.heap.size (.slice (some ⟨w.heap.size, 0, none⟩) 0 G) []) :=
    ⟨rfl, Or.inr ⟨w.heap.size, G, ROW, rfl, Nat.le_refl _, heap_alloc_new w.drew _, Nat.zero_le _, hle, hsz, by simp [fcells]⟩⟩
  have HB : Hid (Below w.heap.size w (w.drew.alloc (.cells ROW 39))) := (Below.refl _ _).drew.alloc (Nat.le_refl _) _
  have hG0 : G ≤ 9223372036854775807 := by omega
  go_enter Tryd.func77, Tryd.ntmps77
  go_wp2_with (at_builtin; refine Lib.wpList_append_run _ rfl _ _ _ _ rfl _ _ rfl rfl _ _ (hrz _) ?_)
  go_ret
  exact ⟨_, rfl, HO.out, HB.out⟩

end Go.Proofs.YtojoidhjlbcijaaDoor
