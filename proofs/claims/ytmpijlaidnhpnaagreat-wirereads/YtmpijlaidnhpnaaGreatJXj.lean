/- The walks of reading on, part behind part. The walks of which readers may be. -/
import Derived.Test.YtmpijlaidnhpnaaGreatJXi
namespace Go.Proofs.YtmpijlaidnhpnaaGreat
set_option linter.unusedVariables false
set_option linter.unusedSimpArgs false
set_option maxRecDepth 100000
open Go.RowKit Ck

theorem part_any (r : Rr) (v u : Value) (N : Nat) (w : World) (l : List MV) (h : Blk w N 58 (r.gs v u)) (hv : FR w v r.m.L) (hu : MR w (N + 1) u l) (hm : Mid r) (hbl : r.buf.length ≤ 100000) (hl : l.length ≤ 100000) :
    Calls Tryz.prog 35 #[.pointer (some ⟨N, 0, none⟩)] w fun en w' => en = .returned (.bool (part r).1) ∧ Red w' N (part r).2.1 l (part r).2.2 ∧ Below N w w' := by
  have c3 : w.cell? ⟨N, 3, none⟩ = some (.bool r.i) := h.cell 3 _ rfl
  cases hi : r.i
  · have hr := mid_eq hm hi
    rw [part_out hi]
    have hc := head_any r.a r.t r.buf v u N w l (by rw [← hr]; exact h) (by rw [(hm.out hi).1] at hv; exact hv) hu hbl
    rw [← hr] at hc
    rw [hi] at c3
    obtain ⟨q, hq⟩ : ∃ q, partH r = q := ⟨_, rfl⟩
    rw [hq] at hc ⊢
    clear hr hm hv hu h hi hq
    go_enter Tryz.func35, Tryz.ntmps35
    go_wp2_with fail
    refine hc.mono ?_
    rintro en w1 ⟨rfl, h1, h2⟩
    have HX := hide (And.intro h1 h2)
    clear h1 h2
    go_wp2_with fail
    go_ret
    exact ⟨rfl, HX.out⟩
  · rw [part_in hi]
    have hc := body_any r v u N w l h hv hu hm hi hbl hl
    rw [hi] at c3
    obtain ⟨q, hq⟩ : ∃ q, partB r = q := ⟨_, rfl⟩
    rw [hq] at hc ⊢
    clear hm hv hu h hi hq
    go_enter Tryz.func35, Tryz.ntmps35
    go_wp2_with fail
    refine hc.mono ?_
    rintro en w1 ⟨rfl, h1, h2⟩
    have HX := hide (And.intro h1 h2)
    clear h1 h2
    go_wp2_with fail
    go_ret
    exact ⟨rfl, HX.out⟩

/-- What is left to do, as the block says. -/
def muW (w : World) (N : Nat) : Nat := (match w.cell? ⟨N, 2, none⟩ with | some (.string s) => 2 * s.size | _ => 0) + (match w.cell? ⟨N, 3, none⟩ with | some (.bool true) => 1 | _ => 0)
theorem muW_is {w : World} {N : Nat} {q : Rr} {v u : Value} (h : Blk w N 58 (q.gs v u)) : muW w N = mu q := by
  have c2 : w.cell? ⟨N, 2, none⟩ = some (.string (Ck.bs q.buf)) := h.cell 2 _ rfl
  have c3 : w.cell? ⟨N, 3, none⟩ = some (.bool q.i) := h.cell 3 _ rfl
  unfold muW mu
  rw [c2, c3]
  simp only [Ck.bs_size]
  cases q.i <;> rfl
/-- At most one message a part. -/
theorem part_one (r : Rr) : (part r).2.2.length ≤ 1 := by
  unfold part partH partB
  dsimp only
  repeat' split
  all_goals simp
/-- Between two parts, in memory. -/
def Onw (w : World) (N : Nat) (K : Nat) (r0 : Rr) (l : List MV) : Prop := ∃ q v u l', Blk w N 58 (q.gs v u) ∧ FR w v q.m.L ∧ MR w (N + 1) u l' ∧ Mid q ∧ l'.length + mu q ≤ K ∧ (go r0).1 = (go q).1 ∧ l.map Prod.fst ++ (go r0).2 = l'.map Prod.fst ++ (go q).2

theorem readOn_stop (r : Rr) (v u : Value) (N : Nat) (s : ByteArray) (w : World) (h : Blk w N 58 (r.gs v u)) (he : r.e ≠ 0) :
    Calls Tryz.prog 20 #[.pointer (some ⟨N, 0, none⟩), .string s] w fun en w' => en = .returned (.tuple #[]) ∧ w' = w := by
  have c17 : w.cell? ⟨N, 17, none⟩ = some (.int .i64 r.e) := h.cell 17 _ rfl
  have heb : (r.e != 0) = true := by simpa using he
  clear h he
  go_enter Tryz.func20, Tryz.ntmps20
  go_wp2_with fail
  refine bodyPost_ret (v := .tuple #[]) (by simp [results, Tryz.results20, go_sem]) rfl ⟨rfl, rfl⟩

set_option maxHeartbeats 4000000 in
theorem readOn_go (r : Rr) (v u : Value) (N : Nat) (s : List UInt8) (w : World) (l : List MV) (h : Blk w N 58 (r.gs v u)) (hv : FR w v r.m.L) (hu : MR w (N + 1) u l) (hm : Mid r) (hK : l.length + mu (r.app s) ≤ 100000) :
    Calls Tryz.prog 20 #[.pointer (some ⟨N, 0, none⟩), .string (Ck.bs s)] w fun en w' => en = .returned (.tuple #[]) ∧ Red w' N (go (r.app s)).1 l (go (r.app s)).2 ∧ Below N w w' := by
  have c17 : w.cell? ⟨N, 17, none⟩ = some (.int .i64 r.e) := h.cell 17 _ rfl
  have c2 : w.cell? ⟨N, 2, none⟩ = some (.string (Ck.bs r.buf)) := h.cell 2 _ rfl
  rw [hm.e0] at c17
  have hbl : r.buf.length ≤ 50000 ∧ s.length ≤ 50000 := by
    unfold mu Rr.app at hK
    simp only [List.length_append] at hK
    omega
  have s1 := Ck.bs_size r.buf
  have s2 := Ck.bs_size s
  have ha := bs_app r.buf s
  have hlt := h.lt
  have hN1 : Blk (w.setCell ⟨N, 2, none⟩ (.string (Ck.bs (r.buf ++ s)))) N 58 ((r.app s).gs v u) := h.set 2 (show 2 < 19 by decide) _
  have hO1 := only_set (only_refl w N) 2 (.string (Ck.bs (r.buf ++ s)))
  have hv1 : FR (w.setCell ⟨N, 2, none⟩ (.string (Ck.bs (r.buf ++ s)))) v (r.app s).m.L := hv.keep (Kf.only hO1 (by rw [h.ty]; decide))
  have hu1 := hu.only hO1 (by rw [h.ty]; decide) (by rw [h.ty]; decide)
  have hB1 : Below N w (w.setCell ⟨N, 2, none⟩ (.string (Ck.bs (r.buf ++ s)))) := below_only hO1 (Nat.le_refl _) (Nat.le_of_lt hlt)
  have dz := h.fz
  have HON := hide (show Onw (w.setCell ⟨N, 2, none⟩ (.string (Ck.bs (r.buf ++ s)))) N (l.length + mu (r.app s)) (r.app s) l from ⟨r.app s, v, u, l, hN1, hv1, hu1, hm.app s, Nat.le_refl _, rfl, rfl⟩)
  have HBL := hide hB1
  generalize l.length + mu (r.app s) = K at HON hK
  generalize hg : r.app s = g at HON ⊢
  clear hg h hv hu hm hN1 hO1 hv1 hu1 hB1
  go_enter Tryz.func20, Tryz.ntmps20
  go_upto_region 2 with fail
  clear dz c17 c2
  generalize World.setCell _ _ _ = W2 at HON HBL ⊢
  go_loopw [20] (fun _ wr => Onw wr N K g l ∧ Below N w wr) (fun _ wr => muW wr N)
  case atStart => exact ⟨HON.out, HBL.out⟩
  case round =>
    obtain ⟨⟨q, v', u', l', h, hv, hu, hm, hK', e1, e2⟩, hB⟩ := hrel
    have hmu := muW_is h
    have hqb : 2 * q.buf.length ≤ mu q := by unfold mu; omega
    have hc := part_any q v' u' N _ l' h hv hu hm (by omega) (by omega)
    have h1 := part_one q
    cases hp : (part q).1
    · rw [hp] at hc
      have eg := go_end hp
      rw [eg] at e1 e2
      simp only at e1 e2
      have HX := hide (And.intro e1 (And.intro e2 hB))
      clear h hv hu hm hK' e1 e2 hB eg hmu hp h1 hqb
      go_wp2_with fail
      refine hc.mono ?_
      rintro en w3 ⟨rfl, h3, h4⟩
      have HY := hide (And.intro h3 h4)
      clear h3 h4 hc
      go_wp2_with fail
      refine bodyPost_end (v := .tuple #[]) (by simp [results, Tryz.results20, go_sem]) rfl ?_
      obtain ⟨e1, e2, hB⟩ := HX.out
      obtain ⟨⟨v3, u3, l3, i1, i2, i3, i4⟩, h4⟩ := HY.out
      refine ⟨rfl, ⟨v3, u3, l3, by rw [e1]; exact i1, by rw [e1]; exact i2, i3, ?_⟩, hB.trans h4⟩
      rw [i4, e2]
    · rw [hp] at hc
      have eg := go_on hm hp
      rw [eg] at e1 e2
      simp only at e1 e2
      have hlt := part_mu hm hp
      have hm2 := mid_part hm hp
      have HX := hide (And.intro e1 (And.intro e2 (And.intro hB (And.intro hm2 (And.intro hlt (And.intro hK' (And.intro h1 hmu)))))))
      clear h hv hu hm hK' e1 e2 hB eg hmu hp h1 hlt hm2 hqb
      go_wp2_with fail
      refine hc.mono ?_
      rintro en w3 ⟨rfl, h3, h4⟩
      have HY := hide (And.intro h3 h4)
      clear h3 h4 hc
      go_wp2_with fail
      obtain ⟨e1, e2, hB, hm2, hlt, hK', h1, hmu⟩ := HX.out
      obtain ⟨⟨v3, u3, l3, i1, i2, i3, i4⟩, h4⟩ := HY.out
      have i5 : l3.length = l'.length + (part q).2.2.length := by
        have := congrArg List.length i4
        simpa using this
      refine ⟨⟨⟨(part q).2.1, v3, u3, l3, i1, i2, i3, hm2, by omega, e1, ?_⟩, hB.trans h4⟩, ?_⟩
      · rw [e2, i4, List.append_assoc]
      · rw [muW_is i1, hmu]; exact hlt

end Go.Proofs.YtmpijlaidnhpnaaGreat

namespace Go.Proofs.YtmpijlaidnhpnaaGreat
set_option linter.unusedVariables false
set_option linter.unusedSimpArgs false
set_option maxRecDepth 100000
open Go.RowKit

/-- Nothing was read, cell by cell. -/
def nnB (sm st sr cln : ByteArray) (sc sn k z cst clf csz : Int) (vn : Nat) (b : List UInt8) : Bool := decide (sm.toList = []) && decide (st.toList = []) && decide (sc = 0) && decide (sr.toList = []) && decide (sn = 0) && decide (vn = 0) && decide ((Ck.bs b).toList = []) && decide (k = 0) && decide (z = 0) && decide (cst = 0) && decide (cln.toList = []) && decide (clf = 0) && decide (csz = 0)
theorem nn_none (r : Rr) : nnB r.m.s.m r.m.s.t r.m.s.r r.c.line r.m.s.c r.m.s.n r.k r.z r.c.st r.c.left r.c.size r.m.L.length r.m.b = noneB r := by
  unfold nnB noneB noneB.zeroB
  rw [ByteArray.toList_eq, ByteArray.toList_eq, ByteArray.toList_eq, ByteArray.toList_eq, ByteArray.toList_eq, Ck.bs_list]
  rw [show decide (r.m.L.length = 0) = decide (r.m.L = []) by simp [List.length_eq_zero_iff]]
  simp only [Bool.and_assoc]

set_option maxHeartbeats 8000000 in
theorem nothing_cells (a i : Bool) (t : ByteArray) (buf b : List UInt8) (sm st sr : ByteArray) (sc sn k z e cst clf csz : Int) (cln : ByteArray) (va : Option Addr) (vn vc : Nat) (w : World) :
    Calls Tryz.prog 25 #[.agg #[.bool a, .string t, .string (Ck.bs buf), .bool i, .string sm, .string st, .int .i64 sc, .string sr, .int .i64 sn, .slice va vn vc, .string (Ck.bs b), .int .i64 k, .int .i64 z, .int .i64 cst, .string cln, .int .i64 clf, .int .i64 csz, .int .i64 e]] w fun en w' => en = .returned (.bool (nnB sm st sr cln sc sn k z cst clf csz vn b)) ∧ Below w.heap.size w w' := by
  have hX := Blk.new w 33 [.bool a, .string t, .string (Ck.bs buf), .bool i, .string sm, .string st, .int .i64 sc, .string sr, .int .i64 sn, .slice va vn vc, .string (Ck.bs b), .int .i64 k, .int .i64 z, .int .i64 cst, .string cln, .int .i64 clf, .int .i64 csz, .int .i64 e]
  change Blk (w.alloc (.cells #[.bool a, .string t, .string (Ck.bs buf), .bool i, .string sm, .string st, .int .i64 sc, .string sr, .int .i64 sn, .slice va vn vc, .string (Ck.bs b), .int .i64 k, .int .i64 z, .int .i64 cst, .string cln, .int .i64 clf, .int .i64 csz, .int .i64 e] 33)) _ _ _ at hX
  have hB : Below w.heap.size w (w.alloc (.cells #[.bool a, .string t, .string (Ck.bs buf), .bool i, .string sm, .string st, .int .i64 sc, .string sr, .int .i64 sn, .slice va vn vc, .string (Ck.bs b), .int .i64 k, .int .i64 z, .int .i64 cst, .string cln, .int .i64 clf, .int .i64 csz, .int .i64 e] 33)) := (Below.refl _ _).alloc (Nat.le_refl _) _
  clear hX hB
  go_enter Tryz.func25, Tryz.ntmps25
  go_wp2_with fail
  all_goals
    go_ret
    exact ⟨ret_bool (by simp [nnB, *]), one_alloc _ _ _⟩
theorem nothing_any (r : Rr) (v : Value) (w : World) (hr : Row w v r.m.L) :
    Calls Tryz.prog 25 #[r.v v] w fun en w' => en = .returned (.bool (noneB r)) ∧ Below w.heap.size w w' := by
  obtain ⟨va, vc, rfl⟩ := hr.slice
  rw [← nn_none r]
  exact nothing_cells _ _ _ _ _ _ _ _ _ _ _ _ _ _ _ _ _ _ _ _ w

set_option maxHeartbeats 8000000 in
theorem rightLength_any (r : Rr) (v : Value) (w : World) (hr : Row w v r.m.L) (hs : Short r.m.s) (hl : r.m.L.length ≤ 50) (hS : Sh r.m.L) :
    Calls Tryz.prog 26 #[r.v v] w fun en w' => en = .returned (.bool (lenB r)) ∧ Below w.heap.size w w' := by
  have hlen := fun W hW => length_any r v r.m v W hs hW hl hS
  have HV : Hid (lenB r = (decide ((lgF r.a r.t r.m.s r.m.L).2.2 = 0) && (decide (r.k = (lgF r.a r.t r.m.s r.m.L).1) && decide (r.z = (lgF r.a r.t r.m.s r.m.L).2.1)))) := rfl
  obtain ⟨⟨A1, A2, A3⟩, hA⟩ : ∃ q, lgF r.a r.t r.m.s r.m.L = q := ⟨_, rfl⟩
  rw [hA] at hlen HV
  simp only at HV
  rw [HV.out]
  obtain ⟨va, vc, rfl⟩ := hr.slice
  obtain ⟨a, t, buf, i, ⟨⟨sm, st, sc, sr, sn⟩, L, b⟩, k, z, ⟨cst, cln, clf, csz⟩, e⟩ := r
  unfold Rr.v Ms.v anV at hlen
  unfold Rr.v
  simp only at hlen hr ⊢
  generalize L.length = vn at hlen hr ⊢
  clear hA HV hs hl hS
  have hX := Blk.new w 33 [.bool a, .string t, .string (Ck.bs buf), .bool i, .string sm, .string st, .int .i64 sc, .string sr, .int .i64 sn, .slice va vn vc, .string (Ck.bs b), .int .i64 k, .int .i64 z, .int .i64 cst, .string cln, .int .i64 clf, .int .i64 csz, .int .i64 e]
  change Blk (w.alloc (.cells #[.bool a, .string t, .string (Ck.bs buf), .bool i, .string sm, .string st, .int .i64 sc, .string sr, .int .i64 sn, .slice va vn vc, .string (Ck.bs b), .int .i64 k, .int .i64 z, .int .i64 cst, .string cln, .int .i64 clf, .int .i64 csz, .int .i64 e] 33)) _ _ _ at hX
  have hB : Below w.heap.size w (w.alloc (.cells #[.bool a, .string t, .string (Ck.bs buf), .bool i, .string sm, .string st, .int .i64 sc, .string sr, .int .i64 sn, .slice va vn vc, .string (Ck.bs b), .int .i64 k, .int .i64 z, .int .i64 cst, .string cln, .int .i64 clf, .int .i64 csz, .int .i64 e] 33)) := (Below.refl _ _).alloc (Nat.le_refl _) _
  have hR := hide (hr.below hB)
  clear hr
  go_enter Tryz.func26, Tryz.ntmps26
  go_wp2_with (refine wpList_load_mid rfl 33 (.tmp 1) rfl w.heap.size 0 rfl _ _ (hX.range 0 18) Tryz.underlying33 rfl (by kernel_rfl) ?_)
  generalize World.alloc _ _ = W1 at hX hB hR ⊢
  refine (hlen _ hR.out).mono ?_
  rintro en w1 ⟨rfl, hb1⟩
  replace hX := hX.below hb1
  replace hB := hB.trans (hb1.mono hB.size)
  clear hR hb1 hlen
  go_upto_region 2 with fail
  replace hX := hX.alloc (.cells #[.int .i64 A1, .int .i64 A2] 28)
  replace hB := hB.alloc hB.size (.cells #[.int .i64 A1, .int .i64 A2] 28)
  have hY := Blk.new w1 28 [.int .i64 A1, .int .i64 A2]
  change Blk (w1.alloc (.cells #[.int .i64 A1, .int .i64 A2] 28)) _ _ _ at hY
  generalize World.alloc w1 _ = W2 at hX hB hY ⊢
  generalize w1.heap.size = M at hY ⊢
  have c11 : W2.cell? ⟨w.heap.size, 11, none⟩ = some (.int .i64 k) := hX.cell 11 _ rfl
  have c12 : W2.cell? ⟨w.heap.size, 12, none⟩ = some (.int .i64 z) := hX.cell 12 _ rfl
  have d0 : W2.cell? ⟨M, 0, none⟩ = some (.int .i64 A1) := hY.cell 0 _ rfl
  have d1 : W2.cell? ⟨M, 1, none⟩ = some (.int .i64 A2) := hY.cell 1 _ rfl
  have HB := hide hB
  clear hX hY hB
  go_wp2_with fail
  all_goals
    go_ret
    exact ⟨ret_bool (by simp [*]), HB.out⟩

theorem so_two (x y z : Int) : (x != 4 && y == z) = (true && !decide (x = 4) && decide (y = z)) := by
  by_cases h : x = 4
  · subst h; simp
  · have hx : (x != 4) = true := by simpa using h
    rw [hx, decide_eq_false h]; rfl
set_option maxHeartbeats 8000000 in
theorem rightSoFar_any (r : Rr) (v : Value) (w : World) (hr : Row w v r.m.L) (hb : r.m.b.length ≤ 1000000) (hc : r.c.line.size ≤ 1000000) :
    Calls Tryz.prog 27 #[r.v v] w fun en w' => en = .returned (.bool (sofB r)) ∧ Below w.heap.size w w' := by
  have hck := fun W => Ck.right_any r.c W hc
  obtain ⟨va, vc, rfl⟩ := hr.slice
  have HV : Hid (sofB r = if r.k = 1 then decide ((r.m.b.length : Int) < r.z) && noneB.zeroB r.c
    else if r.k = 2 then Ck.rtB r.c && !decide (r.c.st = 4) && decide ((r.m.b.length : Int) = r.c.size)
    else if r.k = 3 then decide (r.m.b.length ≤ 20000) && noneB.zeroB r.c else false) := rfl
  rw [HV.out]
  have hz : noneB.zeroB r.c = (decide (r.c.st = 0) && decide (r.c.line.toList = []) && decide (r.c.left = 0) && decide (r.c.size = 0)) := by unfold noneB.zeroB; rw [ByteArray.toList_eq]
  rw [hz]
  obtain ⟨R, hR⟩ : ∃ R, Ck.rtB r.c = R := ⟨_, rfl⟩
  rw [hR] at hck ⊢
  have hlen := Ck.bs_size r.m.b
  obtain ⟨a, t, buf, i, ⟨⟨sm, st, sc, sr, sn⟩, L, b⟩, k, z, ⟨cst, cln, clf, csz⟩, e⟩ := r
  unfold Ck.K.v at hck
  unfold Rr.v
  simp only at hck hlen hb ⊢
  generalize L.length = vn
  clear HV hz hR hr hc
  have hX := Blk.new w 33 [.bool a, .string t, .string (Ck.bs buf), .bool i, .string sm, .string st, .int .i64 sc, .string sr, .int .i64 sn, .slice va vn vc, .string (Ck.bs b), .int .i64 k, .int .i64 z, .int .i64 cst, .string cln, .int .i64 clf, .int .i64 csz, .int .i64 e]
  change Blk (w.alloc (.cells #[.bool a, .string t, .string (Ck.bs buf), .bool i, .string sm, .string st, .int .i64 sc, .string sr, .int .i64 sn, .slice va vn vc, .string (Ck.bs b), .int .i64 k, .int .i64 z, .int .i64 cst, .string cln, .int .i64 clf, .int .i64 csz, .int .i64 e] 33)) _ _ _ at hX
  have hB : Below w.heap.size w (w.alloc (.cells #[.bool a, .string t, .string (Ck.bs buf), .bool i, .string sm, .string st, .int .i64 sc, .string sr, .int .i64 sn, .slice va vn vc, .string (Ck.bs b), .int .i64 k, .int .i64 z, .int .i64 cst, .string cln, .int .i64 clf, .int .i64 csz, .int .i64 e] 33)) := (Below.refl _ _).alloc (Nat.le_refl _) _
  generalize hbl : b.length = bl at hlen hb ⊢
  clear hbl
  by_cases k1 : k = 1
  · rw [if_pos k1]
    subst k1
    clear hX hB hck
    go_enter Tryz.func27, Tryz.ntmps27
    go_wp2_with fail
    all_goals
      go_ret
      exact ⟨ret_bool (by first | (simp [*]; done) | (simp [*]; omega) | (simp [*]; intros; omega)), one_alloc _ _ _⟩
  rw [if_neg k1]
  have k1b : (k == 1) = false := by simpa using k1
  by_cases k2 : k = 2
  · rw [if_pos k2]
    subst k2
    go_enter Tryz.func27, Tryz.ntmps27
    go_wp2_with fail
    generalize World.alloc _ _ = W1 at hX hB ⊢
    refine (hck _).mono ?_
    rintro en w1 ⟨rfl, hb1⟩
    replace hX := hX.below hb1
    replace hB := hB.trans (hb1.mono hB.size)
    have c13 : w1.cell? ⟨w.heap.size, 13, none⟩ = some (.int .i64 cst) := hX.cell 13 _ rfl
    have c16 : w1.cell? ⟨w.heap.size, 16, none⟩ = some (.int .i64 csz) := hX.cell 16 _ rfl
    have HB := hide hB
    clear hX hB hb1 hck
    cases R
    · go_wp2_with fail
      all_goals
        go_ret
        exact ⟨ret_bool (by simp [*]), HB.out⟩
    · go_wp2_with fail
      all_goals
        go_ret
        exact ⟨ret_bool (by first | (simp [*]; done) | exact so_two _ _ _), HB.out⟩
  rw [if_neg k2]
  have k2b : (k == 2) = false := by simpa using k2
  by_cases k3 : k = 3
  · rw [if_pos k3]
    subst k3
    clear hX hB hck
    go_enter Tryz.func27, Tryz.ntmps27
    go_wp2_with fail
    all_goals
      go_ret
      exact ⟨ret_bool (by first | (simp [*]; done) | (simp [*]; omega) | (simp [*]; intros; omega)), one_alloc _ _ _⟩
  · rw [if_neg k3]
    have k3b : (k == 3) = false := by simpa using k3
    clear hX hB hck
    go_enter Tryz.func27, Tryz.ntmps27
    go_wp2_with fail
    all_goals
      go_ret
      exact ⟨ret_bool (by first | (simp [*]; done) | (simp [*]; omega) | (simp [*]; intros; omega)), one_alloc _ _ _⟩

end Go.Proofs.YtmpijlaidnhpnaaGreat
