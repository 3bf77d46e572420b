/- Rows of numbers in memory. -/
import Derived.Test.YtmpijlaidnhpnaaGreatJXp
import Derived.Laws.AppendOwn
import Derived.Laws.OwnMore
namespace Go.Proofs.YtmpijlaidnhpnaaGreat
set_option linter.unusedVariables false
set_option linter.unusedSimpArgs false
open Go.RowKit

theorem Tryz.info3 : (Tryz.prog.info? 3).map (fun i => (i.zero, i.size, i.bytes)) = some (some (.int .i64 0), 1, 8) := by kernel_rfl

def ints (l : List Int) : List Value := l.map fun x => .int .i64 x
theorem ints_length (l : List Int) : (ints l).length = l.length := by simp [ints]
theorem ints_append (l m : List Int) : ints (l ++ m) = ints l ++ ints m := by simp [ints]
theorem ints_one (l : List Int) : ∀ u ∈ ints l, u.oneCell' = true := by
  intro u hu
  obtain ⟨c, _, rfl⟩ := List.mem_map.1 hu
  rfl
/-- A row of numbers that can be read; one that the call has made. -/
def IRow (w : World) (v : Value) (L : List Int) : Prop := ∃ (a : Option Addr) (cap : Nat), v = .slice a L.length cap ∧ L.length ≤ cap ∧
  ∀ k (h : k < L.length), ∃ g off, a = some ⟨g, off, none⟩ ∧ g < w.heap.size ∧ w.cell? ⟨g, off + k, none⟩ = some (.int .i64 L[k])
theorem IRow.below {w w' : World} {v : Value} {L : List Int} (h : IRow w v L) (hb : Below w.heap.size w w') : IRow w' v L := by
  obtain ⟨a, cap, h1, h2, h3⟩ := h
  refine ⟨a, cap, h1, h2, fun k hk => ?_⟩
  obtain ⟨g, off, e, hg, c0⟩ := h3 k hk
  exact ⟨g, off, e, Nat.lt_of_lt_of_le hg hb.size, (hb.cell (p := ⟨g, off + k, none⟩) hg).trans c0⟩
def IOwn (b : Nat) (w : World) (v : Value) (l : List Int) : Prop := w.ownsRow b 3 1 v l.length (ints l)
theorem IOwn.below {b : Nat} {w w' : World} {v : Value} {l : List Int} (h : IOwn b w v l) (hb : Below w.heap.size w w') : IOwn b w' v l := owns_below h hb
theorem IOwn.other {N : Nat} {w : World} {v : Value} {l : List Int} (h : IOwn (N + 1) w v l) (j : Nat) (x : Value) : IOwn (N + 1) (w.setCell ⟨N, j, none⟩ x) v l := by
  refine ⟨h.1, ?_⟩
  rcases h.2 with h | ⟨g, cap, cur, h1, h2, h3, h4⟩
  · exact Or.inl h
  · exact Or.inr ⟨g, cap, cur, h1, h2, (Below.heap_setCell w ⟨N, j, none⟩ x g (by show g ≠ N; omega)).trans h3, h4⟩
theorem IOwn.pick {b : Nat} {w : World} {g n cap : Nat} {l : List Int} (h : IOwn b w (.slice (some ⟨g, 0, none⟩) n cap) l) (j : Nat) (hj : j < l.length) : w.cell? ⟨g, j, none⟩ = some (.int .i64 l[j]) := by
  have := World.ownsRow.cells h (g := g) rfl j (.int .i64 l[j]) (by simp [ints, hj])
  rwa [add_none, Nat.zero_add] at this

/-- One row is put behind another one, which the call has made. -/
theorem wpList_append_Ints {w : World} {ops : Array Oper} {rest : List Oper} {o : Oper} {a : Act} {Q : Exit → Act → World → Prop} (hgd : o.guard = none) (s x : Operand)
    (ho : o.op = .call { callee := .builtin .append, args := #[s, x], argTypes := #[49, 49] }) (base : Nat) (v vx : Value) (D L : List Int) (hs : a.eval s = v) (hx : a.eval x = vx)
    (hown : IOwn base w v D) (hrow : IRow w vx L) (hl : D.length + L.length ≤ 1000000) (hbase : base ≤ w.heap.size)
    (h : ∀ v' w', IOwn base w' v' (D ++ L) → w.grownBy w' v.ownBlock → wpList Tryz.prog ops Q rest (a.put o.dst v') w') :
    wpList Tryz.prog ops Q (o :: rest) a w := by
  obtain ⟨i0, hi0, hz0, hz1, hz2⟩ := info_parts Tryz.info3
  obtain ⟨b, cap, rfl, hcap, hR⟩ := hrow
  by_cases h0 : L.length = 0
  · obtain rfl : L = [] := List.eq_nil_of_length_eq_zero h0
    refine wpList_plain hgd fun K hK => ?_
    have hrun := run_append_owned_zero (P := Tryz.prog) (w := w) base 49 o.type 3 i0 1 Tryz.underlying49 hi0 v D.length (ints D) hown b cap
    unfold Oper.wp
    simp [execOp, ho, resolve, invoke, builtin, hs, hx, hrun, Result.andThen]
    exact hK _ _ (h v w (by rw [List.append_nil]; exact hown) (grownBy_refl _ _))
  · obtain ⟨g, off, rfl, -, -⟩ := hR 0 (by omega)
    refine wpList_append_own _ hgd s x 49 ho base 3 i0 _ 1 8 Tryz.underlying49 hi0 hz0 hz1 hz2 rfl (by decide) v D.length (ints D) hs hown ⟨g, off, none⟩ L.length cap (ints L) hx (by rw [ints_length, Nat.mul_one]) ?_ (ints_one L) (maxLen_of (by omega)) (by omega) hbase ?_
    · intro j u hj
      have hjl : j < L.length := by
        have := (List.getElem?_eq_some_iff.1 hj).1
        rwa [ints_length] at this
      obtain ⟨g', off', he, -, c0⟩ := hR j hjl
      cases he
      have e : (ints L)[j]? = some (.int .i64 L[j]) := by simp [ints, hjl]
      rw [e] at hj
      cases hj
      rw [add_none]; exact c0
    intro v' w' h1 h2 _
    refine h v' w' ?_ h2
    unfold IOwn
    rw [List.length_append, ints_append]
    exact h1

end Go.Proofs.YtmpijlaidnhpnaaGreat
