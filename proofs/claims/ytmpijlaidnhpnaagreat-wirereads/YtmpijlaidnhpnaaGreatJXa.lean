/- Messages and readers in memory. -/
import Derived.Test.YtmpijlaidnhpnaaGreatJXo
import Derived.Test.YtmpijlaidnhpnaaGreatJSa
import Derived.Deep.MidRow
namespace Go.Proofs.YtmpijlaidnhpnaaGreat
set_option linter.unusedVariables false
set_option linter.unusedSimpArgs false
set_option maxRecDepth 100000
open Go.RowKit

/-- The kind of a block. -/
def ty (w : World) (b : Nat) : Option TypeId := match w.heap[b]? with | some (.cells _ t _) => some t | _ => none
theorem ty_lt {w : World} {b : Nat} {t : TypeId} (h : ty w b = some t) : b < w.heap.size := by
  unfold ty at h
  by_cases hb : b < w.heap.size
  · exact hb
  · rw [Array.getElem?_eq_none (by omega)] at h; exact absurd h (by simp)
theorem ty_same {w w' : World} {b : Nat} (h : w'.heap[b]? = w.heap[b]?) : ty w' b = ty w b := by unfold ty; rw [h]
theorem ty_new (w : World) (C : Array Value) (t : TypeId) : ty (w.alloc (.cells C t)) w.heap.size = some t := by
  unfold ty
  rw [show (w.alloc (.cells C t)).heap[w.heap.size]? = some (.cells C t) by show (w.heap.push _)[w.heap.size]? = _; simp]
/-- Rows of fields are as they were. -/
structure Kf (w w' : World) : Prop where
  size : w.heap.size ≤ w'.heap.size
  same : ∀ b, ty w b = some 68 → w'.heap[b]? = w.heap[b]?
theorem Kf.refl (w : World) : Kf w w := ⟨Nat.le_refl _, fun _ _ => rfl⟩
theorem Kf.trans {a b c : World} (h : Kf a b) (g : Kf b c) : Kf a c := ⟨Nat.le_trans h.size g.size, fun k hk => (g.same k ((ty_same (h.same k hk)).trans hk)).trans (h.same k hk)⟩
theorem Kf.below {w w' : World} (h : Below w.heap.size w w') : Kf w w' := ⟨h.size, fun b hb => h.block b (ty_lt hb)⟩
theorem Kf.only {w w' : World} {N : Nat} (h : w.grownBy w' (some N)) (ht : ty w N ≠ some 68) : Kf w w' :=
  ⟨h.size, fun b hb => h.block b (ty_lt hb) (fun e => ht (by rw [← Option.some.inj e]; exact hb))⟩
/-- A row of fields, in a block of its kind. -/
structure FR (w : World) (v : Value) (L : List Fd) : Prop where
  row : Row w v L
  ty : ∀ a n c, v = .slice (some a) n c → ty w a.block = some 68
theorem FR.keep {w w' : World} {v : Value} {L : List Fd} (h : FR w v L) (hk : Kf w w') : FR w' v L := by
  obtain ⟨⟨a, cap, rfl, hc, hR⟩, ht⟩ := h
  refine ⟨⟨a, cap, rfl, hc, fun k hk2 => ?_⟩, fun b n c e => ?_⟩
  · obtain ⟨g, off, e, hg, c0, c1⟩ := hR k hk2
    subst e
    have hs := hk.same g (ht _ _ _ rfl)
    exact ⟨g, off, rfl, Nat.lt_of_lt_of_le hg hk.size, (World.cell?_of_block (w := w) hs).trans c0, (World.cell?_of_block (w := w) hs).trans c1⟩
  · exact (ty_same (hk.same _ (ht b n c e))).trans (ht b n c e)
theorem FR.below {w w' : World} {v : Value} {L : List Fd} (h : FR w v L) (hb : Below w.heap.size w w') : FR w' v L := h.keep (Kf.below hb)
theorem FR.own {w : World} {base : Nat} {v : Value} {L : List Fd} (h : Own w base v L) : FR w v L := by
  refine ⟨h.row, fun a n c e => ?_⟩
  rcases h.2 with ⟨rfl, -⟩ | ⟨g, cap, cur, rfl, h2, h3, -⟩
  · exact absurd e (by simp)
  · injection e with e _ _
    obtain rfl := Option.some.inj e
    show Go.Proofs.YtmpijlaidnhpnaaGreat.ty w g = some 68
    unfold Go.Proofs.YtmpijlaidnhpnaaGreat.ty
    rw [h3]
theorem FR.nil (w : World) : FR w (.slice none 0 0) [] := ⟨Row.nil w, fun _ _ _ e => absurd e (by simp)⟩

/-- What a block holds is known cell by cell. -/
structure Blk (w : World) (N : Nat) (t : TypeId) (cs : List Value) : Prop where
  cell : ∀ i v, cs[i]? = some v → w.cell? ⟨N, i, none⟩ = some v
  ty : ty w N = some t
  fz : ∀ o, w.frozen? ⟨N, o, none⟩ = false
theorem Blk.lt {w : World} {N : Nat} {t : TypeId} {cs : List Value} (h : Blk w N t cs) : N < w.heap.size := ty_lt h.ty
theorem Blk.keep {w w' : World} {N : Nat} {t : TypeId} {cs : List Value} (h : Blk w N t cs) (hs : w'.heap[N]? = w.heap[N]?) : Blk w' N t cs :=
  ⟨fun i v hv => (World.cell?_of_block (w := w) hs).trans (h.cell i v hv), (ty_same hs).trans h.ty, fun o => (World.frozen?_of_block (w := w) hs).trans (h.fz o)⟩
theorem Blk.below {w w' : World} {N : Nat} {t : TypeId} {cs : List Value} (h : Blk w N t cs) (hb : Below w.heap.size w w') : Blk w' N t cs := h.keep (hb.block N h.lt)
theorem Blk.alloc {w : World} {N : Nat} {t : TypeId} {cs : List Value} (h : Blk w N t cs) (o : Obj) : Blk (w.alloc o) N t cs := h.below ((Below.refl _ _).alloc (Nat.le_refl _) o)
theorem Blk.drew {w : World} {N : Nat} {t : TypeId} {cs : List Value} (h : Blk w N t cs) : Blk w.drew N t cs := h.keep rfl
theorem Blk.new (w : World) (t : TypeId) (cs : List Value) : Blk (w.alloc (.cells cs.toArray t)) w.heap.size t cs :=
  ⟨fun i v hv => by rw [World.cell?_alloc_new]; simpa using hv, ty_new _ _ _, fun o => World.frozen?_alloc_new _ _ _ _⟩
theorem Blk.set {w : World} {N : Nat} {t : TypeId} {cs : List Value} (h : Blk w N t cs) (i : Nat) (hi : i < cs.length) (v : Value) : Blk (w.setCell ⟨N, i, none⟩ v) N t (cs.set i v) := by
  refine ⟨fun j u hu => ?_, ?_, fun o => by rw [World.frozen?_setCell]; exact h.fz o⟩
  · by_cases e : i = j
    · subst e
      rw [List.getElem?_set_self hi] at hu
      rw [← Option.some.inj hu]
      exact World.cell?_setCell_same _ _ _ (h.cell i cs[i] (List.getElem?_eq_getElem hi))
    · rw [List.getElem?_set_ne e] at hu
      rw [World.cell?_setCell_other _ _ _ _ (by simp <;> omega)]
      exact h.cell j u hu
  · have ht := h.ty
    unfold Go.Proofs.YtmpijlaidnhpnaaGreat.ty at ht ⊢
    simp only [World.setCell, Array.getElem?_modify, if_true]
    cases hN : w.heap[N]? with
    | none => rw [hN] at ht; exact absurd ht (by simp)
    | some o =>
      rw [hN] at ht
      cases o <;> first | (simp at ht; done) | (simpa using ht)
theorem Blk.other {w : World} {N : Nat} {t : TypeId} {cs : List Value} (h : Blk w N t cs) (M q : Nat) (v : Value) (hM : M ≠ N) : Blk (w.setCell ⟨M, q, none⟩ v) N t cs :=
  h.keep (Below.heap_setCell _ _ _ _ (fun e => hM e.symm))
theorem only_set {w w' : World} {N : Nat} (h : w.grownBy w' (some N)) (i : Nat) (v : Value) : w.grownBy (w'.setCell ⟨N, i, none⟩ v) (some N) :=
  ⟨h.os, h.tape, h.output, by simpa [World.setCell] using h.size, fun b hb hne => (Below.heap_setCell _ _ _ _ (fun e => hne (by rw [e]))).trans (h.block b hb hne)⟩
theorem only_refl (w : World) (N : Nat) : w.grownBy w (some N) := ⟨rfl, rfl, rfl, Nat.le_refl _, fun _ _ _ => rfl⟩
theorem only_below {a w w' : World} {N : Nat} (h : a.grownBy w (some N)) (hb : Below w.heap.size w w') : a.grownBy w' (some N) :=
  ⟨hb.os.trans h.os, hb.tape.trans h.tape, hb.output.trans h.output, Nat.le_trans h.size hb.size, fun b hb2 hne => (hb.block b (Nat.lt_of_lt_of_le hb2 h.size)).trans (h.block b hb2 hne)⟩
theorem only_trans {a b c : World} {N : Nat} (h : a.grownBy b (some N)) (g : b.grownBy c (some N)) : a.grownBy c (some N) :=
  ⟨g.os.trans h.os, g.tape.trans h.tape, g.output.trans h.output, Nat.le_trans h.size g.size, fun k hk hne => (g.block k (Nat.lt_of_lt_of_le hk h.size) hne).trans (h.block k hk hne)⟩
theorem below_only {w w' : World} {N B : Nat} (h : w.grownBy w' (some N)) (hB : B ≤ N) (hw : B ≤ w.heap.size) : Below B w w' :=
  ⟨h.os, h.tape, h.output, h.size, fun k hk => h.block k (by omega) (fun e => by have := Option.some.inj e; omega)⟩

/-- Cells of a list from place o on, written anew. -/
def sets : List Value → Nat → List Value → List Value
  | cs, _, [] => cs
  | cs, o, v :: r => sets (cs.set o v) (o + 1) r
theorem Blk.sets {N : Nat} {t : TypeId} : ∀ (vs : List Value) (o : Nat) {w : World} {cs : List Value}, Blk w N t cs → o + vs.length ≤ cs.length → Blk (w.setCells N o vs) N t (Go.Proofs.YtmpijlaidnhpnaaGreat.sets cs o vs)
  | [], _, _, _, h, _ => h
  | v :: r, o, w, cs, h, hl => by
    rw [List.length_cons] at hl
    exact Blk.sets r (o + 1) (h.set o (by omega) v) (by rw [List.length_set]; omega)
theorem only_sets {w : World} {N : Nat} : ∀ (vs : List Value) (o : Nat) {w0 : World}, w.grownBy w0 (some N) → w.grownBy (w0.setCells N o vs) (some N)
  | [], _, _, h => h
  | v :: r, o, _, h => only_sets r (o + 1) (only_set h o v)
theorem Blk.range {w : World} {N : Nat} {t : TypeId} {cs : List Value} (h : Blk w N t cs) (o n : Nat) : w.rangeAt N o ((cs.drop o).take n) := by
  intro j v hv
  refine h.cell (o + j) v ?_
  rw [List.getElem?_take] at hv
  split at hv
  · rw [List.getElem?_drop] at hv; exact hv
  · exact absurd hv (by simp)
theorem Blk.there {w : World} {N : Nat} {t : TypeId} {cs : List Value} (h : Blk w N t cs) (o n : Nat) (hl : o + n ≤ cs.length) : w.there N o n := fun j hj =>
  ⟨by rw [h.cell (o + j) _ (List.getElem?_eq_getElem (by omega))]; rfl, h.fz _⟩

/-- The cells of a message, of a reader, of what is being read. -/
def Ms.cs (m : Ms) (v : Value) : List Value := [.string m.s.m, .string m.s.t, .int .i64 m.s.c, .string m.s.r, .int .i64 m.s.n, v, .string (Ck.bs m.b)]
def Ms.v (m : Ms) (v : Value) : Value := .agg #[.string m.s.m, .string m.s.t, .int .i64 m.s.c, .string m.s.r, .int .i64 m.s.n, v, .string (Ck.bs m.b)]
def Rr.cs (r : Rr) (v : Value) : List Value := [.bool r.a, .string r.t, .string (Ck.bs r.buf), .bool r.i, .string r.m.s.m, .string r.m.s.t, .int .i64 r.m.s.c, .string r.m.s.r, .int .i64 r.m.s.n, v, .string (Ck.bs r.m.b), .int .i64 r.k, .int .i64 r.z, .int .i64 r.c.st, .string r.c.line, .int .i64 r.c.left, .int .i64 r.c.size, .int .i64 r.e]
def Rr.v (r : Rr) (v : Value) : Value := .agg #[.bool r.a, .string r.t, .string (Ck.bs r.buf), .bool r.i, .string r.m.s.m, .string r.m.s.t, .int .i64 r.m.s.c, .string r.m.s.r, .int .i64 r.m.s.n, v, .string (Ck.bs r.m.b), .int .i64 r.k, .int .i64 r.z, .int .i64 r.c.st, .string r.c.line, .int .i64 r.c.left, .int .i64 r.c.size, .int .i64 r.e]
def Rr.gs (r : Rr) (v u : Value) : List Value := [.bool r.a, .string r.t, .string (Ck.bs r.buf), .bool r.i, .string r.m.s.m, .string r.m.s.t, .int .i64 r.m.s.c, .string r.m.s.r, .int .i64 r.m.s.n, v, .string (Ck.bs r.m.b), .int .i64 r.k, .int .i64 r.z, .int .i64 r.c.st, .string r.c.line, .int .i64 r.c.left, .int .i64 r.c.size, .int .i64 r.e, u]

/-- Whole messages in a row that the call has made, each with its row of fields. -/
abbrev MV := Ms × Value
def mcells (l : List MV) : List Value := l.flatMap fun x => x.1.cs x.2
structure MR (w : World) (base : Nat) (u : Value) (l : List MV) : Prop where
  own : w.ownsRow base 26 7 u l.length (mcells l)
  row : ∀ x ∈ l, FR w x.2 x.1.L
theorem MR.nil (w : World) (base : Nat) : MR w base (.slice none 0 0) [] := ⟨World.ownsRow_nil _ _ _ _, by simp⟩
theorem MR.below {w w' : World} {base : Nat} {u : Value} {l : List MV} (h : MR w base u l) (hb : Below w.heap.size w w') : MR w' base u l := ⟨owns_below h.own hb, fun x hx => (h.row x hx).below hb⟩
theorem own_block7 {w : World} {base : Nat} {e : TypeId} {size : Nat} {u : Value} {n : Nat} {xs : List Value} (h : w.ownsRow base e size u n xs) {g : Nat} (hg : u.ownBlock = some g) : ty w g = some e ∧ base ≤ g := by
  rcases h.2 with ⟨rfl, -⟩ | ⟨g', cap, cur, rfl, h2, h3, -⟩
  · exact absurd hg (by simp [Value.ownBlock])
  · have : g' = g := Option.some.inj hg
    subst this
    exact ⟨by unfold ty; rw [h3], h2⟩
theorem MR.only {w w' : World} {base N : Nat} {u : Value} {l : List MV} (h : MR w base u l) (hg : w.grownBy w' (some N)) (h1 : ty w N ≠ some 68) (h2 : ty w N ≠ some 26) : MR w' base u l := by
  refine ⟨?_, fun x hx => (h.row x hx).keep (Kf.only hg h1)⟩
  refine ⟨h.own.1, ?_⟩
  rcases h.own.2 with h3 | ⟨g, cap, cur, hv, hb, hh, r⟩
  · exact Or.inl h3
  · refine Or.inr ⟨g, cap, cur, hv, hb, ?_, r⟩
    rw [hg.block g (Array.getElem?_eq_some_iff.1 hh).1 (fun e => h2 (by rw [← Option.some.inj e]; unfold ty; rw [hh]))]
    exact hh

end Go.Proofs.YtmpijlaidnhpnaaGreat
