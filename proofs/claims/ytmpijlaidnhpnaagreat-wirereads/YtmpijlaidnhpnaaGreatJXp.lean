/- The walks of Feed, Close and New. The walk of Feed. -/
import Derived.Test.YtmpijlaidnhpnaaGreatJXl
import Derived.Lib.SliceRun
namespace Go.Proofs.YtmpijlaidnhpnaaGreat
set_option linter.unusedVariables false
set_option linter.unusedSimpArgs false
set_option maxRecDepth 100000
open Go.RowKit

set_option maxHeartbeats 4000000 in
theorem clone_any (L : List Fd) (v : Value) (w : World) (hr : Row w v L) (hl : L.length ≤ 1000000) :
    Calls Tryz.prog 34 #[v] w fun en w' => ∃ r, en = .returned r ∧ Own w' w.heap.size r L ∧ Below w.heap.size w w' := by
  obtain ⟨aa, ca, rfl⟩ := hr.slice
  have h0 : Own (w.alloc (.cells #[] 68)) w.heap.size (.slice (some ⟨w.heap.size, 0, none⟩) 0 0) [] := World.ownsRow_lit w #[] 0 (Nat.le_refl _) (by decide) rfl
  have hB0 := one_alloc w #[] 68
  have hR0 := hr.below hB0
  have HX := hide (And.intro h0 (And.intro hR0 hB0))
  have hnil : aa = none → L = [] := by
    rintro rfl
    obtain ⟨a', c', e, -, hR⟩ := hr
    cases e
    by_cases h : L.length = 0
    · exact List.eq_nil_of_length_eq_zero h
    · obtain ⟨g, off, e, -⟩ := hR 0 (by omega)
      exact absurd e (by simp)
  have hq := fun w (a : Option Addr) n c => Lib.run_eql_slice_nil (P := Tryz.prog) w 24 68 a n c 0 0 Tryz.underlying24
  clear h0 hB0 hR0 hr
  cases aa with
  | none =>
    obtain rfl := hnil rfl
    clear hnil HX
    go_enter Tryz.func34, Tryz.ntmps34
    go_wp2_with fail
    go_ret
    exact ⟨_, rfl, Own.nil _ _, Below.refl _ _⟩
  | some p =>
    clear hnil
    generalize hn : L.length = n
    have HN := hide hn
    clear hn
    go_enter Tryz.func34, Tryz.ntmps34
    go_wp2_with (at_builtin; refine wpList_append_Row rfl (.tmp 5) (.tmp 6) rfl w.heap.size (.slice (some ⟨w.heap.size, 0, none⟩) 0 0) (.slice (some p) n ca) [] L rfl rfl HX.out.1 (by rw [← HN.out]; exact HX.out.2.1) (by simp; omega) HX.out.2.2.size ?_; intro v' w2 ho2 hg2; obtain ⟨av, cv, hv⟩ := ho2.row.slice; subst hv)
    rw [List.nil_append] at ho2
    have hB2 := HX.out.2.2.grown hg2 HX.out.2.2.size (own_block HX.out.1)
    go_ret
    exact ⟨_, rfl, ho2, hB2⟩

theorem copied_any (m : Ms) (v : Value) (w : World) (hr : Row w v m.L) (hl : m.L.length ≤ 1000000) :
    Calls Tryz.prog 19 #[m.v v] w fun en w' => ∃ va vc, en = .returned (m.v (.slice va m.L.length vc)) ∧ FR w' (.slice va m.L.length vc) m.L ∧ Below w.heap.size w w' := by
  obtain ⟨aa, ca, rfl⟩ := hr.slice
  have hcl := fun W hW => clone_any m.L (.slice aa m.L.length ca) W hW hl
  have hB : Below w.heap.size w ((w.alloc (.cells #[.string m.s.m, .string m.s.t, .int .i64 m.s.c, .string m.s.r, .int .i64 m.s.n, .slice aa m.L.length ca, .string (Ck.bs m.b)] 26)).alloc (.cells #[.string ⟨#[]⟩, .string ⟨#[]⟩, .int .i64 0, .string ⟨#[]⟩, .int .i64 0, .slice none 0 0, .string ⟨#[]⟩] 26)) := ((Below.refl _ _).alloc (Nat.le_refl _) _).alloc (by simp) _
  have hM : Blk ((w.alloc (.cells #[.string m.s.m, .string m.s.t, .int .i64 m.s.c, .string m.s.r, .int .i64 m.s.n, .slice aa m.L.length ca, .string (Ck.bs m.b)] 26)).alloc (.cells #[.string ⟨#[]⟩, .string ⟨#[]⟩, .int .i64 0, .string ⟨#[]⟩, .int .i64 0, .slice none 0 0, .string ⟨#[]⟩] 26)) w.heap.size 26 (m.cs (.slice aa m.L.length ca)) := (Blk.new w 26 (m.cs (.slice aa m.L.length ca))).alloc _
  have hZ : Blk ((w.alloc (.cells #[.string m.s.m, .string m.s.t, .int .i64 m.s.c, .string m.s.r, .int .i64 m.s.n, .slice aa m.L.length ca, .string (Ck.bs m.b)] 26)).alloc (.cells #[.string ⟨#[]⟩, .string ⟨#[]⟩, .int .i64 0, .string ⟨#[]⟩, .int .i64 0, .slice none 0 0, .string ⟨#[]⟩] 26)) (w.heap.size + 1) 26 [.string ⟨#[]⟩, .string ⟨#[]⟩, .int .i64 0, .string ⟨#[]⟩, .int .i64 0, .slice none 0 0, .string ⟨#[]⟩] := by
    have := Blk.new (w.alloc (.cells #[.string m.s.m, .string m.s.t, .int .i64 m.s.c, .string m.s.r, .int .i64 m.s.n, .slice aa m.L.length ca, .string (Ck.bs m.b)] 26)) 26 [.string ⟨#[]⟩, .string ⟨#[]⟩, .int .i64 0, .string ⟨#[]⟩, .int .i64 0, .slice none 0 0, .string ⟨#[]⟩]
    rwa [show (w.alloc (.cells #[.string m.s.m, .string m.s.t, .int .i64 m.s.c, .string m.s.r, .int .i64 m.s.n, .slice aa m.L.length ca, .string (Ck.bs m.b)] 26)).heap.size = w.heap.size + 1 by simp] at this
  have hR := hide (hr.below hB)
  clear hr
  unfold Ms.v
  go_enter Tryz.func19, Tryz.ntmps19
  go_upto_region 1 with fail
  generalize World.alloc (World.alloc _ _) _ = W1 at hB hM hZ hR ⊢
  have c5 : W1.cell? ⟨w.heap.size, 5, none⟩ = some (.slice aa m.L.length ca) := hM.cell 5 _ rfl
  go_wp2_with fail
  refine (hcl _ hR.out).mono ?_
  rintro en w1 ⟨x, rfl, ho1, hb1⟩
  obtain ⟨va, vc, rfl⟩ := ho1.row.slice
  have hF := FR.own ho1
  replace hB := hB.trans (hb1.mono hB.size)
  replace hM := hM.below hb1
  replace hZ := hZ.below hb1
  have d5 : w1.cell? ⟨w.heap.size, 5, none⟩ = some (.slice aa m.L.length ca) := hM.cell 5 _ rfl
  have dz := hM.fz
  have hM2 : Blk (w1.setCell ⟨w.heap.size, 5, none⟩ (.slice va m.L.length vc)) w.heap.size 26 (m.cs (.slice va m.L.length vc)) := hM.set 5 (show 5 < 7 by decide) _
  have hO := only_set (only_refl w1 w.heap.size) 5 (.slice va m.L.length vc)
  have hZ2 := hZ.keep (hO.block _ hZ.lt (by simp))
  have hF2 := hF.keep (Kf.only hO (by rw [hM.ty]; decide))
  have hB2 := hB.trans (below_only hO (Nat.le_refl _) hB.size)
  clear hB hM hZ ho1 hb1 hF c5 hR hcl hO
  go_upto_region 2 with fail
  clear d5 dz
  generalize World.setCell _ _ _ = W2 at hM2 hZ2 hF2 hB2 ⊢
  have m0 : W2.cell? ⟨w.heap.size, 0, none⟩ = some (.string m.s.m) := hM2.cell 0 _ rfl
  have m1 : W2.cell? ⟨w.heap.size, 1, none⟩ = some (.string m.s.t) := hM2.cell 1 _ rfl
  have m2 : W2.cell? ⟨w.heap.size, 2, none⟩ = some (.int .i64 m.s.c) := hM2.cell 2 _ rfl
  have m3 : W2.cell? ⟨w.heap.size, 3, none⟩ = some (.string m.s.r) := hM2.cell 3 _ rfl
  have m4 : W2.cell? ⟨w.heap.size, 4, none⟩ = some (.int .i64 m.s.n) := hM2.cell 4 _ rfl
  have m5 : W2.cell? ⟨w.heap.size, 5, none⟩ = some (.slice va m.L.length vc) := hM2.cell 5 _ rfl
  have m6 : W2.cell? ⟨w.heap.size, 6, none⟩ = some (.string (Ck.bs m.b)) := hM2.cell 6 _ rfl
  have hO3 := only_sets (m.cs (.slice va m.L.length vc)) 0 (only_refl W2 (w.heap.size + 1))
  have hZ3 : Blk (W2.setCells (w.heap.size + 1) 0 (m.cs (.slice va m.L.length vc))) (w.heap.size + 1) 26 (m.cs (.slice va m.L.length vc)) := hZ2.sets (m.cs (.slice va m.L.length vc)) 0 (show 0 + 7 ≤ 7 by decide)
  have hF3 := hF2.keep (Kf.only hO3 (by rw [hZ2.ty]; decide))
  have hB3 := hB2.trans (below_only hO3 (Nat.le_succ _) hB2.size)
  have z0 : W2.cell? ⟨w.heap.size + 1, 0, none⟩ = some (.string ⟨#[]⟩) := hZ2.cell 0 _ rfl
  have z1 : W2.cell? ⟨w.heap.size + 1, 1, none⟩ = some (.string ⟨#[]⟩) := hZ2.cell 1 _ rfl
  have z2 : W2.cell? ⟨w.heap.size + 1, 2, none⟩ = some (.int .i64 0) := hZ2.cell 2 _ rfl
  have z3 : W2.cell? ⟨w.heap.size + 1, 3, none⟩ = some (.string ⟨#[]⟩) := hZ2.cell 3 _ rfl
  have z4 : W2.cell? ⟨w.heap.size + 1, 4, none⟩ = some (.int .i64 0) := hZ2.cell 4 _ rfl
  have z5 : W2.cell? ⟨w.heap.size + 1, 5, none⟩ = some (.slice none 0 0) := hZ2.cell 5 _ rfl
  have z6 : W2.cell? ⟨w.heap.size + 1, 6, none⟩ = some (.string ⟨#[]⟩) := hZ2.cell 6 _ rfl
  have zf := hZ2.fz
  have HX := hide (And.intro hZ3 (And.intro hF3 hB3))
  clear hM2 hZ2 hF2 hB2 hO3 hZ3 hF3 hB3
  go_wp2_with fail
  obtain ⟨hZ3, hF3, hB3⟩ := HX.out
  change bodyPost _ _ _ _ _ (W2.setCells (w.heap.size + 1) 0 (m.cs (.slice va m.L.length vc)))
  clear m0 m1 m2 m3 m4 m5 m6 z0 z1 z2 z3 z4 z5 z6 zf HX
  generalize W2.setCells _ _ _ = W3 at hZ3 hF3 hB3 ⊢
  have m0 : W3.cell? ⟨w.heap.size + 1, 0, none⟩ = some (.string m.s.m) := hZ3.cell 0 _ rfl
  have m1 : W3.cell? ⟨w.heap.size + 1, 1, none⟩ = some (.string m.s.t) := hZ3.cell 1 _ rfl
  have m2 : W3.cell? ⟨w.heap.size + 1, 2, none⟩ = some (.int .i64 m.s.c) := hZ3.cell 2 _ rfl
  have m3 : W3.cell? ⟨w.heap.size + 1, 3, none⟩ = some (.string m.s.r) := hZ3.cell 3 _ rfl
  have m4 : W3.cell? ⟨w.heap.size + 1, 4, none⟩ = some (.int .i64 m.s.n) := hZ3.cell 4 _ rfl
  have m5 : W3.cell? ⟨w.heap.size + 1, 5, none⟩ = some (.slice va m.L.length vc) := hZ3.cell 5 _ rfl
  have m6 : W3.cell? ⟨w.heap.size + 1, 6, none⟩ = some (.string (Ck.bs m.b)) := hZ3.cell 6 _ rfl
  refine bodyPost_ret (v := .agg #[.string m.s.m, .string m.s.t, .int .i64 m.s.c, .string m.s.r, .int .i64 m.s.n, .slice va m.L.length vc, .string (Ck.bs m.b)]) (by simp [results, Tryz.results19, go_sem, m0, m1, m2, m3, m4, m5, m6]) rfl ⟨va, vc, rfl, hF3, hB3⟩

end Go.Proofs.YtmpijlaidnhpnaaGreat

namespace Go.Proofs.YtmpijlaidnhpnaaGreat
set_option linter.unusedVariables false
set_option linter.unusedSimpArgs false
set_option maxRecDepth 100000
open Go.RowKit Ck

theorem results_reader {W : World} {M : Nat} {cs : List Value} {u e : Value} {T : Array Value} (h : Blk W M 33 cs) (hl : cs.length = 18) (h4 : T[4]? = some (.pointer (some ⟨M, 0, none⟩))) (h5 : T[5]? = some u) (h6 : T[6]? = some e) :
    (results Tryz.f7 T).run Tryz.prog W = .ok (.tuple #[.agg cs.toArray, u, e]) W := by
  have hld := run_loadVar_mid (P := Tryz.prog) W M 0 33 cs _ (by have := h.range 0 18; rwa [List.drop_zero, List.take_of_length_le (by omega)] at this) Tryz.underlying33 rfl (by rw [hl]; kernel_rfl)
  simp [results, Tryz.results7, h4, h5, h6, hld, asAddr]

theorem wpList_build_is {P : Program} {ops : Array Oper} {rest : List Oper} {o : Oper} {a : Act} {w : World} {Q : Exit → Act → World → Prop} (hg : o.guard = none) (t : TypeId) (parts : Array (Nat × Operand)) (ho : o.op = .build t parts) (cells : Array Value)
    (hv : P.built t (parts.map fun (i, x) => (i, a.eval x)).toList = some cells)
    (h : wpList P ops Q rest (a.put o.dst (.agg cells)) w) : wpList P ops Q (o :: rest) a w := by
  refine wpList_build hg t parts ho (by rw [hv]; rfl) ?_
  rw [hv]
  exact h

theorem owns_mono {w : World} {b b' : Nat} {e : TypeId} {size : Nat} {u : Value} {n : Nat} {xs : List Value} (h : w.ownsRow b e size u n xs) (hb : b' ≤ b) : w.ownsRow b' e size u n xs := by
  refine ⟨h.1, ?_⟩
  rcases h.2 with h | ⟨g, cap, cur, h1, h2, h3⟩
  · exact Or.inl h
  · exact Or.inr ⟨g, cap, cur, h1, by omega, h3⟩
theorem readOn_any (r : Rr) (v u : Value) (N : Nat) (s : List UInt8) (w : World) (l : List MV) (h : Blk w N 58 (r.gs v u)) (hv : FR w v r.m.L) (hu : MR w (N + 1) u l) (hR : rgB r = true) (hK : l.length + mu (r.app s) ≤ 100000) :
    Calls Tryz.prog 20 #[.pointer (some ⟨N, 0, none⟩), .string (Ck.bs s)] w fun en w' => en = .returned (.tuple #[]) ∧ Red w' N (fdG r s).1 l (fdG r s).2 ∧ Below N w w' := by
  by_cases he : r.e = 0
  · have e1 : fdG r s = go (r.app s) := by unfold fdG; rw [if_neg (by simpa using he)]
    rw [e1]
    exact readOn_go r v u N s w l h hv hu (wait_rg hR he).mid hK
  · have e1 : fdG r s = (r, []) := by unfold fdG; rw [if_pos he]
    rw [e1]
    refine (readOn_stop r v u N (Ck.bs s) w h he).mono ?_
    rintro en w1 ⟨rfl, rfl⟩
    exact ⟨rfl, ⟨v, u, l, h, hv, hu, by simp⟩, Below.refl _ _⟩

/-- What Feed answers of a reader that may be. -/
def Fed (w : World) (B : Nat) (q : Rr × List Ms) (en : Ending) : Prop := ∃ va vc u l, en = .returned (.tuple #[q.1.v (.slice va q.1.m.L.length vc), u, .int .i64 0]) ∧ FR w (.slice va q.1.m.L.length vc) q.1.m.L ∧ MR w B u l ∧ l.map Prod.fst = q.2

set_option maxHeartbeats 16000000 in
theorem feed_good (r : Rr) (v : Value) (s : List UInt8) (w : World) (hr : Row w v r.m.L) (hs : Short r.m.s) (hl : r.m.L.length ≤ 50) (hS : Sh r.m.L) (hb : r.m.b.length ≤ 1000000) (hc : r.c.line.size ≤ 1000000) (hbu : r.buf.length + s.length ≤ 45000) (hR : rgB r = true) :
    Calls Tryz.prog 7 #[r.v v, .string (Ck.bs s)] w fun en w' => Fed w' w.heap.size (fdG r s) en ∧ Below w.heap.size w w' := by
  have hw := fun W hW => wright_any r v W hW hs hl hS hb hc (by omega)
  rw [hR] at hw
  have hro := fun vv W N hN hF => readOn_any r vv (.slice none 0 0) N s W [] hN hF (MR.nil _ _) hR (by unfold mu Rr.app; simp only [List.length_append, List.length_nil]; split <;> omega)
  obtain ⟨q, hq⟩ : ∃ q, fdG r s = q := ⟨_, rfl⟩
  rw [hq] at hro ⊢
  obtain ⟨va, vc, rfl⟩ := hr.slice
  have hcp := fun W hW => copied_any r.m (.slice va r.m.L.length vc) W hW (by omega)
  have hX : Blk ((w.alloc (.cells #[.bool r.a, .string r.t, .string (Ck.bs r.buf), .bool r.i, .string r.m.s.m, .string r.m.s.t, .int .i64 r.m.s.c, .string r.m.s.r, .int .i64 r.m.s.n, .slice va r.m.L.length vc, .string (Ck.bs r.m.b), .int .i64 r.k, .int .i64 r.z, .int .i64 r.c.st, .string r.c.line, .int .i64 r.c.left, .int .i64 r.c.size, .int .i64 r.e] 33)).alloc (.cells #[.bool false, .string ⟨#[]⟩, .string ⟨#[]⟩, .bool false, .string ⟨#[]⟩, .string ⟨#[]⟩, .int .i64 0, .string ⟨#[]⟩, .int .i64 0, .slice none 0 0, .string ⟨#[]⟩, .int .i64 0, .int .i64 0, .int .i64 0, .string ⟨#[]⟩, .int .i64 0, .int .i64 0, .int .i64 0] 33)) w.heap.size 33 (r.cs (.slice va r.m.L.length vc)) := (Blk.new w 33 (r.cs (.slice va r.m.L.length vc))).alloc _
  have hZ : Blk ((w.alloc (.cells #[.bool r.a, .string r.t, .string (Ck.bs r.buf), .bool r.i, .string r.m.s.m, .string r.m.s.t, .int .i64 r.m.s.c, .string r.m.s.r, .int .i64 r.m.s.n, .slice va r.m.L.length vc, .string (Ck.bs r.m.b), .int .i64 r.k, .int .i64 r.z, .int .i64 r.c.st, .string r.c.line, .int .i64 r.c.left, .int .i64 r.c.size, .int .i64 r.e] 33)).alloc (.cells #[.bool false, .string ⟨#[]⟩, .string ⟨#[]⟩, .bool false, .string ⟨#[]⟩, .string ⟨#[]⟩, .int .i64 0, .string ⟨#[]⟩, .int .i64 0, .slice none 0 0, .string ⟨#[]⟩, .int .i64 0, .int .i64 0, .int .i64 0, .string ⟨#[]⟩, .int .i64 0, .int .i64 0, .int .i64 0] 33)) (w.heap.size + 1) 33 [.bool false, .string ⟨#[]⟩, .string ⟨#[]⟩, .bool false, .string ⟨#[]⟩, .string ⟨#[]⟩, .int .i64 0, .string ⟨#[]⟩, .int .i64 0, .slice none 0 0, .string ⟨#[]⟩, .int .i64 0, .int .i64 0, .int .i64 0, .string ⟨#[]⟩, .int .i64 0, .int .i64 0, .int .i64 0] := by
    have := Blk.new (w.alloc (.cells #[.bool r.a, .string r.t, .string (Ck.bs r.buf), .bool r.i, .string r.m.s.m, .string r.m.s.t, .int .i64 r.m.s.c, .string r.m.s.r, .int .i64 r.m.s.n, .slice va r.m.L.length vc, .string (Ck.bs r.m.b), .int .i64 r.k, .int .i64 r.z, .int .i64 r.c.st, .string r.c.line, .int .i64 r.c.left, .int .i64 r.c.size, .int .i64 r.e] 33)) 33 [.bool false, .string ⟨#[]⟩, .string ⟨#[]⟩, .bool false, .string ⟨#[]⟩, .string ⟨#[]⟩, .int .i64 0, .string ⟨#[]⟩, .int .i64 0, .slice none 0 0, .string ⟨#[]⟩, .int .i64 0, .int .i64 0, .int .i64 0, .string ⟨#[]⟩, .int .i64 0, .int .i64 0, .int .i64 0]
    rwa [show (w.alloc (.cells #[.bool r.a, .string r.t, .string (Ck.bs r.buf), .bool r.i, .string r.m.s.m, .string r.m.s.t, .int .i64 r.m.s.c, .string r.m.s.r, .int .i64 r.m.s.n, .slice va r.m.L.length vc, .string (Ck.bs r.m.b), .int .i64 r.k, .int .i64 r.z, .int .i64 r.c.st, .string r.c.line, .int .i64 r.c.left, .int .i64 r.c.size, .int .i64 r.e] 33)).heap.size = w.heap.size + 1 by simp] at this
  have hB : Below w.heap.size w ((w.alloc (.cells #[.bool r.a, .string r.t, .string (Ck.bs r.buf), .bool r.i, .string r.m.s.m, .string r.m.s.t, .int .i64 r.m.s.c, .string r.m.s.r, .int .i64 r.m.s.n, .slice va r.m.L.length vc, .string (Ck.bs r.m.b), .int .i64 r.k, .int .i64 r.z, .int .i64 r.c.st, .string r.c.line, .int .i64 r.c.left, .int .i64 r.c.size, .int .i64 r.e] 33)).alloc (.cells #[.bool false, .string ⟨#[]⟩, .string ⟨#[]⟩, .bool false, .string ⟨#[]⟩, .string ⟨#[]⟩, .int .i64 0, .string ⟨#[]⟩, .int .i64 0, .slice none 0 0, .string ⟨#[]⟩, .int .i64 0, .int .i64 0, .int .i64 0, .string ⟨#[]⟩, .int .i64 0, .int .i64 0, .int .i64 0] 33)) := ((Below.refl _ _).alloc (Nat.le_refl _) _).alloc (by simp) _
  have hQ := hide (hr.below hB)
  unfold Rr.v at hw ⊢
  unfold Ms.v at hcp
  clear hr hq hR hs hl hS hb hc hbu
  go_enter Tryz.func7, Tryz.ntmps7
  go_upto_region 1 with fail
  generalize World.alloc (World.alloc _ _) _ = W1 at hX hZ hB hQ ⊢
  go_wp2_with (refine wpList_load_mid rfl 33 (.tmp 2) rfl w.heap.size 0 rfl [.bool r.a, .string r.t, .string (Ck.bs r.buf), .bool r.i, .string r.m.s.m, .string r.m.s.t, .int .i64 r.m.s.c, .string r.m.s.r, .int .i64 r.m.s.n, .slice va r.m.L.length vc, .string (Ck.bs r.m.b), .int .i64 r.k, .int .i64 r.z, .int .i64 r.c.st, .string r.c.line, .int .i64 r.c.left, .int .i64 r.c.size, .int .i64 r.e] _ (hX.range 0 18) Tryz.underlying33 rfl (by kernel_rfl) ?_)
  refine (hw _ hQ.out).mono ?_
  rintro en w1 ⟨rfl, hb1⟩
  replace hX := hX.below hb1
  replace hZ := hZ.below hb1
  replace hB := hB.trans (hb1.mono hB.size)
  have hQ1 := hide (hQ.out.below hb1)
  have hZl := hZ.lt
  have hNew := Blk.new w1 58 [.bool false, .string ⟨#[]⟩, .string ⟨#[]⟩, .bool false, .string ⟨#[]⟩, .string ⟨#[]⟩, .int .i64 0, .string ⟨#[]⟩, .int .i64 0, .slice none 0 0, .string ⟨#[]⟩, .int .i64 0, .int .i64 0, .int .i64 0, .string ⟨#[]⟩, .int .i64 0, .int .i64 0, .int .i64 0, .slice none 0 0]
  change Blk (w1.alloc (.cells #[.bool false, .string ⟨#[]⟩, .string ⟨#[]⟩, .bool false, .string ⟨#[]⟩, .string ⟨#[]⟩, .int .i64 0, .string ⟨#[]⟩, .int .i64 0, .slice none 0 0, .string ⟨#[]⟩, .int .i64 0, .int .i64 0, .int .i64 0, .string ⟨#[]⟩, .int .i64 0, .int .i64 0, .int .i64 0, .slice none 0 0] 58)) _ _ _ at hNew
  have hth := hNew.there 0 19 (show 0 + 19 ≤ 19 by decide)
  have hN := hNew.sets [.bool r.a, .string r.t, .string (Ck.bs r.buf), .bool r.i, .string r.m.s.m, .string r.m.s.t, .int .i64 r.m.s.c, .string r.m.s.r, .int .i64 r.m.s.n, .slice va r.m.L.length vc, .string (Ck.bs r.m.b), .int .i64 r.k, .int .i64 r.z, .int .i64 r.c.st, .string r.c.line, .int .i64 r.c.left, .int .i64 r.c.size, .int .i64 r.e, .slice none 0 0] 0 (show 0 + 19 ≤ 19 by decide)
  have e2 : sets [.bool false, .string ⟨#[]⟩, .string ⟨#[]⟩, .bool false, .string ⟨#[]⟩, .string ⟨#[]⟩, .int .i64 0, .string ⟨#[]⟩, .int .i64 0, .slice none 0 0, .string ⟨#[]⟩, .int .i64 0, .int .i64 0, .int .i64 0, .string ⟨#[]⟩, .int .i64 0, .int .i64 0, .int .i64 0, .slice none 0 0] 0 [.bool r.a, .string r.t, .string (Ck.bs r.buf), .bool r.i, .string r.m.s.m, .string r.m.s.t, .int .i64 r.m.s.c, .string r.m.s.r, .int .i64 r.m.s.n, .slice va r.m.L.length vc, .string (Ck.bs r.m.b), .int .i64 r.k, .int .i64 r.z, .int .i64 r.c.st, .string r.c.line, .int .i64 r.c.left, .int .i64 r.c.size, .int .i64 r.e, .slice none 0 0] = r.gs (.slice va r.m.L.length vc) (.slice none 0 0) := by kernel_rfl
  rw [e2] at hN
  have hO := only_sets [.bool r.a, .string r.t, .string (Ck.bs r.buf), .bool r.i, .string r.m.s.m, .string r.m.s.t, .int .i64 r.m.s.c, .string r.m.s.r, .int .i64 r.m.s.n, .slice va r.m.L.length vc, .string (Ck.bs r.m.b), .int .i64 r.k, .int .i64 r.z, .int .i64 r.c.st, .string r.c.line, .int .i64 r.c.left, .int .i64 r.c.size, .int .i64 r.e, .slice none 0 0] 0 (only_below (only_refl w1 w1.heap.size) ((Below.refl _ w1).alloc (Nat.le_refl _) (.cells #[.bool false, .string ⟨#[]⟩, .string ⟨#[]⟩, .bool false, .string ⟨#[]⟩, .string ⟨#[]⟩, .int .i64 0, .string ⟨#[]⟩, .int .i64 0, .slice none 0 0, .string ⟨#[]⟩, .int .i64 0, .int .i64 0, .int .i64 0, .string ⟨#[]⟩, .int .i64 0, .int .i64 0, .int .i64 0, .slice none 0 0] 58)))
  have hX3 := hX.keep (hO.block _ hX.lt (fun e => absurd (Option.some.inj e) (by omega)))
  have hZ3 := hZ.keep (hO.block _ hZ.lt (fun e => absurd (Option.some.inj e) (by omega)))
  have hB3 := hB.trans (below_only hO hB.size hB.size)
  have hQ3 := hide (hQ1.out.below (below_only hO (Nat.le_refl _) (Nat.le_refl _)))
  have HY := hide (And.intro hN (And.intro hX3 (And.intro hZ3 (And.intro hB3 hQ3.out))))
  clear hb1 hw hQ hQ1 hNew e2 hO hZ hB hN hX3 hZ3 hB3 hQ3
  go_upto_region 4 with (first | (refine wpList_load_mid rfl 33 (.tmp 2) rfl w.heap.size 0 rfl [.bool r.a, .string r.t, .string (Ck.bs r.buf), .bool r.i, .string r.m.s.m, .string r.m.s.t, .int .i64 r.m.s.c, .string r.m.s.r, .int .i64 r.m.s.n, .slice va r.m.L.length vc, .string (Ck.bs r.m.b), .int .i64 r.k, .int .i64 r.z, .int .i64 r.c.st, .string r.c.line, .int .i64 r.c.left, .int .i64 r.c.size, .int .i64 r.e] _ (hX.range 0 18) Tryz.underlying33 rfl (by kernel_rfl) ?_) | (refine wpList_build_is rfl 58 _ rfl #[.bool r.a, .string r.t, .string (Ck.bs r.buf), .bool r.i, .string r.m.s.m, .string r.m.s.t, .int .i64 r.m.s.c, .string r.m.s.r, .int .i64 r.m.s.n, .slice va r.m.L.length vc, .string (Ck.bs r.m.b), .int .i64 r.k, .int .i64 r.z, .int .i64 r.c.st, .string r.c.line, .int .i64 r.c.left, .int .i64 r.c.size, .int .i64 r.e, .slice none 0 0] (by kernel_rfl) ?_) | (refine wpList_store_mid rfl 58 (.tmp 7) (.tmp 13) rfl _ _ _ rfl rfl hth (by kernel_rfl) (by simp [Value.oneCell']) ?_))
  simp only [Act.put]
  obtain ⟨hN, hX3, hZ3, hB3, hQ3⟩ := HY.out
  clear HY hth hX
  generalize World.setCells _ _ _ _ = W3 at hN hX3 hZ3 hB3 hQ3 ⊢
  generalize w1.heap.size = N at hN hZl ⊢
  have c4 : W3.cell? ⟨w.heap.size, 4, none⟩ = some (.string r.m.s.m) := hX3.cell 4 _ rfl
  have c5 : W3.cell? ⟨w.heap.size, 5, none⟩ = some (.string r.m.s.t) := hX3.cell 5 _ rfl
  have c6 : W3.cell? ⟨w.heap.size, 6, none⟩ = some (.int .i64 r.m.s.c) := hX3.cell 6 _ rfl
  have c7 : W3.cell? ⟨w.heap.size, 7, none⟩ = some (.string r.m.s.r) := hX3.cell 7 _ rfl
  have c8 : W3.cell? ⟨w.heap.size, 8, none⟩ = some (.int .i64 r.m.s.n) := hX3.cell 8 _ rfl
  have c9 : W3.cell? ⟨w.heap.size, 9, none⟩ = some (.slice va r.m.L.length vc) := hX3.cell 9 _ rfl
  have c10 : W3.cell? ⟨w.heap.size, 10, none⟩ = some (.string (Ck.bs r.m.b)) := hX3.cell 10 _ rfl
  have HY := hide (And.intro hN (And.intro hZ3 (And.intro hB3 hQ3)))
  clear hN hX3 hZ3 hB3 hQ3
  go_wp2_with fail
  obtain ⟨hN, hZ3, hB3, hQ3⟩ := HY.out
  refine (hcp _ hQ3).mono ?_
  rintro en w4 ⟨va4, vc4, rfl, hF4, hb4⟩
  replace hN := hN.below hb4
  replace hZ3 := hZ3.below hb4
  replace hB3 := hB3.trans (hb4.mono hB3.size)
  have hth := hN.there 4 7 (show 4 + 7 ≤ 19 by decide)
  have hN5 := hN.sets [.string r.m.s.m, .string r.m.s.t, .int .i64 r.m.s.c, .string r.m.s.r, .int .i64 r.m.s.n, .slice va4 r.m.L.length vc4, .string (Ck.bs r.m.b)] 4 (show 4 + 7 ≤ 19 by decide)
  have e5 : sets (r.gs (.slice va r.m.L.length vc) (.slice none 0 0)) 4 [.string r.m.s.m, .string r.m.s.t, .int .i64 r.m.s.c, .string r.m.s.r, .int .i64 r.m.s.n, .slice va4 r.m.L.length vc4, .string (Ck.bs r.m.b)] = r.gs (.slice va4 r.m.L.length vc4) (.slice none 0 0) := by kernel_rfl
  rw [e5] at hN5
  have hO := only_sets [.string r.m.s.m, .string r.m.s.t, .int .i64 r.m.s.c, .string r.m.s.r, .int .i64 r.m.s.n, .slice va4 r.m.L.length vc4, .string (Ck.bs r.m.b)] 4 (only_refl w4 N)
  have hZ5 := hZ3.keep (hO.block _ hZ3.lt (fun e => absurd (Option.some.inj e) (by omega)))
  have hF5 := hF4.keep (Kf.only hO (by rw [hN.ty]; decide))
  have hB5 := hB3.trans (below_only hO (by omega) hB3.size)
  have HY1 := hide (And.intro hN5 (And.intro hZ5 (And.intro hF5 hB5)))
  clear HY hN hZ3 hB3 hQ3 hb4 c4 c5 c6 c7 c8 c9 c10 hF4 e5 hO hN5 hZ5 hF5 hB5 hcp
  go_upto_region 5 with (refine wpList_store_mid rfl 26 (.tmp 18) (.tmp 16) rfl _ _ _ rfl rfl hth (by kernel_rfl) (by simp [Value.oneCell']) ?_)
  simp only [Act.put]
  obtain ⟨hN, hZ, hF, hB⟩ := HY1.out
  clear HY1 hth
  generalize World.setCells _ _ _ _ = W5 at hN hZ hF hB ⊢
  have HY2 := hide (And.intro hN (And.intro hZ (And.intro hF hB)))
  clear hN hZ hF hB
  go_wp2_with fail
  obtain ⟨hN, hZ, hF, hB⟩ := HY2.out
  refine (hro _ _ _ hN hF).mono ?_
  rintro en w6 ⟨rfl, ⟨x6, u6, l6, hN6, hF6, hM6, hl6⟩, hb6⟩
  obtain ⟨v6, c6, rfl⟩ := hF6.row.slice
  have hZ6 := hZ.keep (hb6.block _ (by omega))
  have hB6 := hB.trans (hb6.mono (by omega))
  have HY3 := hide (And.intro hN6 (And.intro hZ6 (And.intro hF6 (And.intro hB6 (And.intro hM6 hl6)))))
  clear HY2 hN hZ hF hB hN6 hZ6 hF6 hB6 hM6 hl6 hb6 hro
  go_wp2_with fail
  obtain ⟨hN6, hZ6, hF6, hB6, hM6, hl6⟩ := HY3.out
  clear HY3
  refine wp_region_held_drew (S := (fun w' => Blk w' N 58 (Rr.gs q.1 (.slice v6 q.1.m.L.length c6) u6))) (by kernel_rfl) (hN6.drew) (fun hHeld => ?_)
  refine wpAnyH_take (i := 0) (oi := _) (v := .pointer (some ⟨N, 0, none⟩)) rfl (by kernel_rfl) (by kernel_rfl) (by kernel_rfl) (fun _ _ _ h => h) (Or.inl ⟨by rfl, fun wS hSw => by go_simp⟩) (by first | trivial | assumption) ?_
  simp only [Act.put, List.getElem_toArray, List.getElem_cons_zero, List.getElem_cons_succ, List.setIfInBounds_toArray, List.set_cons_zero, List.set_cons_succ]
  refine wpAnyH_take (i := 1) (oi := _) (v := .agg #[.bool q.1.a, .string q.1.t, .string (Ck.bs q.1.buf), .bool q.1.i, .string q.1.m.s.m, .string q.1.m.s.t, .int .i64 q.1.m.s.c, .string q.1.m.s.r, .int .i64 q.1.m.s.n, .slice v6 q.1.m.L.length c6, .string (Ck.bs q.1.m.b), .int .i64 q.1.k, .int .i64 q.1.z, .int .i64 q.1.c.st, .string q.1.c.line, .int .i64 q.1.c.left, .int .i64 q.1.c.size, .int .i64 q.1.e]) rfl (by kernel_rfl) (by kernel_rfl) (by kernel_rfl) (fun _ _ _ h => h) (yieldsIf_load_mid (by kernel_rfl) 33 (.tmp 21) rfl N 0 rfl _ _ (fun _ hS => Blk.range (hS) 0 18) Tryz.underlying33 rfl (by kernel_rfl)) (by first | trivial | assumption) ?_
  simp only [Act.put, List.getElem_toArray, List.getElem_cons_zero, List.getElem_cons_succ, List.setIfInBounds_toArray, List.set_cons_zero, List.set_cons_succ]
  refine wpAnyH_take (i := 2) (oi := _) (v := .pointer (some ⟨N, 18, none⟩)) rfl (by kernel_rfl) (by kernel_rfl) (by kernel_rfl) (fun _ _ _ h => h) (Or.inl ⟨by rfl, fun wS hSw => by go_simp⟩) (by first | trivial | assumption) ?_
  simp only [Act.put, List.getElem_toArray, List.getElem_cons_zero, List.getElem_cons_succ, List.setIfInBounds_toArray, List.set_cons_zero, List.set_cons_succ]
  refine wpAnyH_take (i := 3) (oi := _) (v := u6) rfl (by kernel_rfl) (by kernel_rfl) (by kernel_rfl) (fun _ _ _ h => h) (Or.inl ⟨by kernel_rfl, fun wS hSw => by have l18 : World.cell? wS ⟨N, 18, none⟩ = some (u6) := hSw.cell 18 _ rfl; go_simp⟩) (by first | trivial | assumption) ?_
  simp only [Act.put, List.getElem_toArray, List.getElem_cons_zero, List.getElem_cons_succ, List.setIfInBounds_toArray, List.set_cons_zero, List.set_cons_succ]
  have hth := hZ6.drew.there 0 18 (show 0 + 18 ≤ 18 by decide)
  have hO := only_sets [.bool q.1.a, .string q.1.t, .string (Ck.bs q.1.buf), .bool q.1.i, .string q.1.m.s.m, .string q.1.m.s.t, .int .i64 q.1.m.s.c, .string q.1.m.s.r, .int .i64 q.1.m.s.n, .slice v6 q.1.m.L.length c6, .string (Ck.bs q.1.m.b), .int .i64 q.1.k, .int .i64 q.1.z, .int .i64 q.1.c.st, .string q.1.c.line, .int .i64 q.1.c.left, .int .i64 q.1.c.size, .int .i64 q.1.e] 0 (only_refl w6.drew (w.heap.size + 1))
  have hN7 := hN6.drew.keep (hO.block _ hN6.lt (fun e => absurd (Option.some.inj e) (by omega)))
  have hZ7 := hZ6.drew.sets [.bool q.1.a, .string q.1.t, .string (Ck.bs q.1.buf), .bool q.1.i, .string q.1.m.s.m, .string q.1.m.s.t, .int .i64 q.1.m.s.c, .string q.1.m.s.r, .int .i64 q.1.m.s.n, .slice v6 q.1.m.L.length c6, .string (Ck.bs q.1.m.b), .int .i64 q.1.k, .int .i64 q.1.z, .int .i64 q.1.c.st, .string q.1.c.line, .int .i64 q.1.c.left, .int .i64 q.1.c.size, .int .i64 q.1.e] 0 (show 0 + 18 ≤ 18 by decide)
  have e7 : sets [.bool false, .string ⟨#[]⟩, .string ⟨#[]⟩, .bool false, .string ⟨#[]⟩, .string ⟨#[]⟩, .int .i64 0, .string ⟨#[]⟩, .int .i64 0, .slice none 0 0, .string ⟨#[]⟩, .int .i64 0, .int .i64 0, .int .i64 0, .string ⟨#[]⟩, .int .i64 0, .int .i64 0, .int .i64 0] 0 [.bool q.1.a, .string q.1.t, .string (Ck.bs q.1.buf), .bool q.1.i, .string q.1.m.s.m, .string q.1.m.s.t, .int .i64 q.1.m.s.c, .string q.1.m.s.r, .int .i64 q.1.m.s.n, .slice v6 q.1.m.L.length c6, .string (Ck.bs q.1.m.b), .int .i64 q.1.k, .int .i64 q.1.z, .int .i64 q.1.c.st, .string q.1.c.line, .int .i64 q.1.c.left, .int .i64 q.1.c.size, .int .i64 q.1.e] = [.bool q.1.a, .string q.1.t, .string (Ck.bs q.1.buf), .bool q.1.i, .string q.1.m.s.m, .string q.1.m.s.t, .int .i64 q.1.m.s.c, .string q.1.m.s.r, .int .i64 q.1.m.s.n, .slice v6 q.1.m.L.length c6, .string (Ck.bs q.1.m.b), .int .i64 q.1.k, .int .i64 q.1.z, .int .i64 q.1.c.st, .string q.1.c.line, .int .i64 q.1.c.left, .int .i64 q.1.c.size, .int .i64 q.1.e] := by kernel_rfl
  rw [e7] at hZ7
  have hF7 := (hF6.below ((Below.refl _ w6).drew)).keep (Kf.only hO (by rw [hZ6.drew.ty]; decide))
  have hM7 := (hM6.below ((Below.refl _ w6).drew)).only hO (by rw [hZ6.drew.ty]; decide) (by rw [hZ6.drew.ty]; decide)
  have hB7 := hB6.drew.trans (below_only hO (Nat.le_succ _) hB6.size)
  refine wpAnyH_ready (rs := [4]) (by kernel_rfl) (by simp) ?_
  refine AllReadyH.cons (o := _) rfl (fun K hK => ?_) AllReadyH.nil
  rw [if_pos (by kernel_rfl)]
  refine wp_store_mid 33 (.tmp 4) (.tmp 22) rfl _ _ _ rfl rfl (hth) (by kernel_rfl) (by simp [Value.oneCell']) ?_
  simp only [Act.put, List.getElem_toArray, List.getElem_cons_zero, List.getElem_cons_succ, List.setIfInBounds_toArray, List.set_cons_zero, List.set_cons_succ]
  refine hK.out _ _ (hN7) (fun hHeld => ?_)
  clear hK K
  clear hth hO e7 hN6 hZ6 hF6 hM6 hB6
  generalize World.setCells _ _ _ _ = W7 at hHeld hN7 hZ7 hF7 hM7 hB7 ⊢
  refine wpAnyH_take (i := 5) (oi := _) (v := u6) rfl (by kernel_rfl) (by kernel_rfl) (by kernel_rfl) (fun _ _ _ h => h) (Or.inl ⟨by rfl, fun wS hSw => by go_simp⟩) (by first | trivial | assumption) ?_
  simp only [Act.put, List.getElem_toArray, List.getElem_cons_zero, List.getElem_cons_succ, List.setIfInBounds_toArray, List.set_cons_zero, List.set_cons_succ]
  refine wpAnyH_take (i := 6) (oi := _) (v := .int .i64 0) rfl (by kernel_rfl) (by kernel_rfl) (by kernel_rfl) (fun _ _ _ h => h) (Or.inl ⟨by rfl, fun wS hSw => by go_simp⟩) (by first | trivial | assumption) ?_
  simp only [Act.put, List.getElem_toArray, List.getElem_cons_zero, List.getElem_cons_succ, List.setIfInBounds_toArray, List.set_cons_zero, List.set_cons_succ]
  refine wpAnyH_done (by kernel_rfl) ?_ _
  have HY4 := hide (And.intro hZ7 (And.intro hF7 (And.intro hM7 hB7)))
  clear hHeld hN7 hZ7 hF7 hM7 hB7
  go_wp2_with fail
  obtain ⟨hZ7, hF7, hM7, hB7⟩ := HY4.out
  refine bodyPost_ret (results_reader hZ7 rfl rfl rfl rfl) rfl ⟨⟨v6, c6, u6, l6, rfl, hF7, ⟨?_, hM7.row⟩, by rw [hl6]; rfl⟩, hB7⟩
  exact owns_mono hM7.own (by omega)

end Go.Proofs.YtmpijlaidnhpnaaGreat
