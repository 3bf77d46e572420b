/- Rows of numbers in memory. Rows of messages behind one another; what lies in memory between two pieces. -/
import Derived.Test.YtmpijlaidnhpnaaGreatJXp
import Derived.Laws.AppendOwn
import Derived.Laws.OwnMore
import Derived.Test.YtmpijlaidnhpnaaGreatJYa
import Derived.Test.YtmpijlaidnhpnaaGreatJYe
namespace Go.Proofs.YtmpijlaidnhpnaaGreat
set_option linter.unusedVariables false
set_option linter.unusedSimpArgs false
open Go.RowKit

def ints (l : List Int) : List Value := l.map fun x => .int .i64 x
/-- A row of numbers that can be read; one that the call has made. -/
def IRow (w : World) (v : Value) (L : List Int) : Prop := ∃ (a : Option Addr) (cap : Nat), v = .slice a L.length cap ∧ L.length ≤ cap ∧
  ∀ k (h : k < L.length), ∃ g off, a = some ⟨g, off, none⟩ ∧ g < w.heap.size ∧ w.cell? ⟨g, off + k, none⟩ = some (.int .i64 L[k])
theorem IRow.below {w w' : World} {v : Value} {L : List Int} (h : IRow w v L) (hb : Below w.heap.size w w') : IRow w' v L := by
  obtain ⟨a, cap, h1, h2, h3⟩ := h
  refine ⟨a, cap, h1, h2, fun k hk => ?_⟩
  obtain ⟨g, off, e, hg, c0⟩ := h3 k hk
  exact ⟨g, off, e, Nat.lt_of_lt_of_le hg hb.size, (hb.cell (p := ⟨g, off + k, none⟩) hg).trans c0⟩
def IOwn (b : Nat) (w : World) (v : Value) (l : List Int) : Prop := w.ownsRow b 3 1 v l.length (ints l)
theorem IOwn.below {b : Nat} {w w' : World} {v : Value} {l : List Int} (h : IOwn b w v l) (hb : Below w.heap.size w w') : IOwn b w' v l := owns_below h hb
theorem IOwn.other {N : Nat} {w : World} {v : Value} {l : List Int} (h : IOwn (N + 1) w v l) (j : Nat) (x : Value) : IOwn (N + 1) (w.setCell ⟨N, j, none⟩ x) v l := by
  refine ⟨h.1, ?_⟩
  rcases h.2 with h | ⟨g, cap, cur, h1, h2, h3, h4⟩
  · exact Or.inl h
  · exact Or.inr ⟨g, cap, cur, h1, h2, (Below.heap_setCell w ⟨N, j, none⟩ x g (by show g ≠ N; omega)).trans h3, h4⟩
end Go.Proofs.YtmpijlaidnhpnaaGreat

namespace Go.Proofs.YtmpijlaidnhpnaaGreat
set_option linter.unusedVariables false
set_option linter.unusedSimpArgs false
set_option maxRecDepth 100000
open Go.RowKit

theorem mcells_app (l m : List MV) : mcells (l ++ m) = mcells l ++ mcells m := by simp [mcells]
/-- One row of messages is put behind another one, which the call has made. -/
theorem op_append_MR {o : Oper} {a : Act} {w : World} {K : Act → World → Prop} {Q : Exit → Act → World → Prop} (s x : Operand) (ho : o.op = .call { callee := .builtin .append, args := #[s, x], argTypes := #[34, 34] }) (base : Nat) (v vx : Value) (l lx : List MV) (hs : a.eval s = v) (hx : a.eval x = vx)
    (hown : MR w base v l) (hrow : MRow w vx lx) (hl : l.length + lx.length ≤ 1000000) (hbase : base ≤ w.heap.size)
    (h : ∀ v' w', MR w' base v' (l ++ lx) → w.grownBy w' v.ownBlock → K (a.put o.dst v') w') : Oper.wp Tryz.prog o a w K Q := by
  obtain ⟨i0, hi0, hz0, hz1, hz2⟩ := info_parts Tryz.info26
  obtain ⟨b, cap, rfl, hcap, hR⟩ := hrow
  have hfr : ∀ y ∈ lx, FR w y.2 y.1.L := fun y hy => by
    obtain ⟨k, hk, e⟩ := List.getElem_of_mem hy
    obtain ⟨g, -, -, -, f⟩ := hR k hk
    rw [e] at f; exact f
  by_cases h0 : lx.length = 0
  · obtain rfl : lx = [] := List.eq_nil_of_length_eq_zero h0
    have hrun := run_append_owned_zero (P := Tryz.prog) (w := w) base 34 o.type 26 i0 7 Tryz.underlying34 hi0 v l.length (mcells l) hown.own b cap
    unfold Oper.wp
    simp [execOp, ho, resolve, invoke, builtin, hs, hx, hrun, Result.andThen]
    exact h v w (by rw [List.append_nil]; exact hown) (grownBy_refl _ _)
  · obtain ⟨g, rfl, -, -, -⟩ := hR 0 (by omega)
    refine wp_append_own _ s x 34 ho base 26 i0 _ 7 104 Tryz.underlying34 hi0 hz0 hz1 hz2 rfl (by decide) v l.length (mcells l) hs hown.own ⟨g, 0, none⟩ lx.length cap (mcells lx) hx (mcells_len lx) ?_ ?_ (maxLen_of (by omega)) (by omega) hbase ?_
    · intro j u hj
      have hjl := (List.getElem?_eq_some_iff.1 hj).1
      rw [mcells_len] at hjl
      obtain ⟨g', e', -, r, -⟩ := hR (j / 7) (by omega)
      cases e'
      have hm := mcells_at lx (j / 7) (by omega) (j % 7) (Nat.mod_lt _ (by decide))
      have ej : j / 7 * 7 + j % 7 = j := by omega
      rw [ej, hj] at hm
      have := r (j % 7) u hm.symm
      rw [ej] at this
      rw [add_none, Nat.zero_add]; exact this
    · intro u hu
      obtain ⟨y, hy, hu2⟩ := List.mem_flatMap.1 hu
      obtain ⟨ya, yc, e⟩ := (hfr y hy).row.slice
      unfold Ms.cs at hu2
      rw [e] at hu2
      simp at hu2
      rcases hu2 with rfl | rfl | rfl | rfl | rfl | rfl | rfl <;> rfl
    · intro v' w' h1 h2 _
      have hk : Kf w w' := Kf.grown h2 (fun g e => by rw [(own_block7 hown.own e).1]; decide)
      refine h v' w' ⟨?_, fun y hy => ?_⟩ h2
      · rw [List.length_append, mcells_app]; exact h1
      · rcases List.mem_append.1 hy with hy | hy
        · exact (hown.row y hy).keep hk
        · exact (hfr y hy).keep hk

theorem MRow.keep {w w' : World} {u : Value} {l : List MV} (h : MRow w u l) (hs : ∀ a n c, u = .slice (some a) n c → w'.heap[a.block]? = w.heap[a.block]?) (hk : Kf w w') : MRow w' u l := by
  obtain ⟨a, cap, h1, h2, h3⟩ := h
  refine ⟨a, cap, h1, h2, fun k hkl => ?_⟩
  obtain ⟨g, e, hg, c, f⟩ := h3 k hkl
  subst e
  have hb := hs _ _ _ h1
  exact ⟨g, rfl, Nat.lt_of_lt_of_le hg hk.size, fun j v hj => by rw [show w'.cell? ⟨g, k * 7 + j, none⟩ = w.cell? ⟨g, k * 7 + j, none⟩ from World.cell?_of_block hb]; exact c j v hj, f.keep hk⟩
theorem IOwn.keep {b : Nat} {w w' : World} {v : Value} {l : List Int} (h : IOwn b w v l) (hs : ∀ g, v.ownBlock = some g → w'.heap[g]? = w.heap[g]?) : IOwn b w' v l := by
  refine ⟨h.1, ?_⟩
  rcases h.2 with h | ⟨g, cap, cur, h1, h2, h3, h4⟩
  · exact Or.inl h
  · exact Or.inr ⟨g, cap, cur, h1, h2, (hs g (by rw [h1]; rfl)).trans h3, h4⟩
theorem IOwn.block {b : Nat} {w : World} {v : Value} {l : List Int} (h : IOwn b w v l) {g : Nat} (hg : v.ownBlock = some g) : ty w g = some 3 ∧ b ≤ g := own_block7 h hg
theorem MR.lower {w : World} {b b' : Nat} {u : Value} {l : List MV} (h : MR w b u l) (hb : b' ≤ b) : MR w b' u l := ⟨owns_mono h.own hb, h.row⟩

/-- What lies in memory between two pieces: what was read at once, what was read so far, the row of the cuts. -/
structure Bag (w wr : World) (Nw Nn : Nat) (q : Rr) (vq : Value) (uq : Value) (lq : List MV) (r : Rr) (vr : Value) (u : Value) (lg : List MV) (v : Value) (l : List Int) : Prop where
  wh : Blk wr Nw 33 (q.cs vq)
  wf : FR wr vq q.m.L
  wm : MRow wr uq lq
  wl : ∀ a n c, uq = .slice (some a) n c → a.block < Nn
  nw : Blk wr Nn 33 (r.cs vr)
  nf : FR wr vr r.m.L
  gm : MR wr (Nn + 1) u lg
  ro : IOwn (Nn + 1) wr v l
  lt : Nw < Nn
  ge : w.heap.size ≤ Nw
  be : Below w.heap.size w wr
theorem Bag.below {w wr w' : World} {Nw Nn : Nat} {q : Rr} {vq uq : Value} {lq : List MV} {r : Rr} {vr u : Value} {lg : List MV} {v : Value} {l : List Int} (h : Bag w wr Nw Nn q vq uq lq r vr u lg v l) (hb : Below wr.heap.size wr w') : Bag w w' Nw Nn q vq uq lq r vr u lg v l :=
  ⟨h.wh.below hb, h.wf.below hb, h.wm.below hb, h.wl, h.nw.below hb, h.nf.below hb, h.gm.below hb, h.ro.below hb, h.lt, h.ge, h.be.trans (hb.mono h.be.size)⟩
theorem Bag.put {w wr : World} {Nw Nn : Nat} {q : Rr} {vq uq : Value} {lq : List MV} {r : Rr} {vr u : Value} {lg : List MV} {v : Value} {l : List Int} (h : Bag w wr Nw Nn q vq uq lq r vr u lg v l) (r' : Rr) (vr' : Value) (hv : FR wr vr' r'.m.L) : Bag w (wr.setCells Nn 0 (r'.cs vr')) Nw Nn q vq uq lq r' vr' u lg v l := by
  have hO := only_sets (r'.cs vr') 0 (only_refl wr Nn)
  have h68 : ty wr Nn ≠ some 68 := by rw [h.nw.ty]; decide
  have h26 : ty wr Nn ≠ some 26 := by rw [h.nw.ty]; decide
  have hk : Kf wr (wr.setCells Nn 0 (r'.cs vr')) := Kf.only hO h68
  have hlt := h.lt
  have hnl := h.nw.lt
  refine ⟨h.wh.keep (hO.block _ h.wh.lt (fun e => by have := Option.some.inj e; omega)), h.wf.keep hk, h.wm.keep (fun a n c e => ?_) hk, h.wl, ?_, hv.keep hk, h.gm.only hO h68 h26, h.ro.keep (fun g e => ?_), hlt, h.ge, h.be.trans (below_only hO (by have := h.ge; omega) h.be.size)⟩
  · have := h.wl a n c e
    exact hO.block _ (by omega) (fun e => by have := Option.some.inj e; omega)
  · have := h.nw.sets (r'.cs vr') 0 (show 0 + 18 ≤ 18 by decide)
    rw [sets_whole (cs := r'.cs vr') (xs := r.cs vr) rfl] at this
    exact this
  · have h2 := h.ro.block e
    exact hO.block _ (ty_lt h2.1) (fun e => by have := Option.some.inj e; omega)
/- How many messages there may be. -/
theorem part_ones (r : Rr) : (part r).2.2.length ≤ 1 ∧ ((part r).1 = false → (part r).2.2 = []) := by
  unfold part partH partB
  dsimp only
  repeat' split
  all_goals exact ⟨by simp, by simp⟩
theorem goF_few : ∀ (n : Nat) (r : Rr), Mid r → mu r < n → (goF n r).2.length ≤ mu r
  | 0, r, _, h => absurd h (by omega)
  | n + 1, r, hm, h => by
    have hp := part_ones r
    rw [goF]
    by_cases hq : (part r).1 = true
    · rw [if_pos hq]
      have h1 := part_mu hm hq
      have ih := goF_few n _ (mid_part hm hq) (by omega)
      rw [List.length_append]
      have := hp.1
      omega
    · rw [if_neg hq, hp.2 (by simpa using hq)]; exact Nat.zero_le _
theorem fd_few {r : Rr} (h : rgB r = true) (s : List UInt8) : (fdG r s).2.length ≤ 2 * (r.buf.length + s.length) + 1 := by
  unfold fdG
  by_cases he : r.e = 0
  · rw [if_neg (by simpa using he)]
    have := goF_few _ _ ((wait_rg h he).mid.app s) (Nat.lt_succ_self _)
    refine Nat.le_trans this ?_
    unfold mu Rr.app
    simp only [List.length_append]
    split <;> omega
  · rw [if_pos he]; exact Nat.zero_le _

end Go.Proofs.YtmpijlaidnhpnaaGreat
