/- The walks of Like, Same and LikeReader of what is the same; what is laid and written at once. A known request is read; what is laid and written at once. -/
import Derived.Test.YtmpijlaidnhpnaaGreatJXr
import Derived.Great.Walk
namespace Go.Proofs.YtmpijlaidnhpnaaGreat
set_option linter.unusedVariables false
set_option linter.unusedSimpArgs false
set_option maxRecDepth 100000
open Go.RowKit

theorem likeM_any (m : Ms) (v u : Value) (w : World) (hv : Row w v m.L) (hu : Row w u m.L) (hl : m.L.length ≤ 1000000) :
    Calls Tryz.prog 15 #[m.v v, m.v u] w fun en w' => en = .returned (.bool true) ∧ Below w.heap.size w w' := by
  have hk := fun W h1 h2 => like_same m.L v u W h1 h2 hl
  obtain ⟨va, vc, rfl⟩ := hv.slice
  obtain ⟨ua, uc, rfl⟩ := hu.slice
  obtain ⟨⟨sm, st, sc, sr, sn⟩, L, b⟩ := m
  unfold Ms.v
  simp only at hv hu hk ⊢
  generalize L.length = n at hv hu hk ⊢
  generalize Ck.bs b = bb
  have HV := hide hv
  have HU := hide hu
  clear hv hu hl
  have hX : Blk ((w.alloc (.cells #[.string sm, .string st, .int .i64 sc, .string sr, .int .i64 sn, .slice va n vc, .string bb] 26)).alloc (.cells #[.string sm, .string st, .int .i64 sc, .string sr, .int .i64 sn, .slice ua n uc, .string bb] 26)) w.heap.size 26 [.string sm, .string st, .int .i64 sc, .string sr, .int .i64 sn, .slice va n vc, .string bb] := (Blk.new w 26 _).alloc _
  have hY : Blk ((w.alloc (.cells #[.string sm, .string st, .int .i64 sc, .string sr, .int .i64 sn, .slice va n vc, .string bb] 26)).alloc (.cells #[.string sm, .string st, .int .i64 sc, .string sr, .int .i64 sn, .slice ua n uc, .string bb] 26)) (w.heap.size + 1) 26 [.string sm, .string st, .int .i64 sc, .string sr, .int .i64 sn, .slice ua n uc, .string bb] := by
    have := Blk.new (w.alloc (.cells #[.string sm, .string st, .int .i64 sc, .string sr, .int .i64 sn, .slice va n vc, .string bb] 26)) 26 [.string sm, .string st, .int .i64 sc, .string sr, .int .i64 sn, .slice ua n uc, .string bb]
    simpa using this
  have hB : Below w.heap.size w ((w.alloc (.cells #[.string sm, .string st, .int .i64 sc, .string sr, .int .i64 sn, .slice va n vc, .string bb] 26)).alloc (.cells #[.string sm, .string st, .int .i64 sc, .string sr, .int .i64 sn, .slice ua n uc, .string bb] 26)) := ((Below.refl _ _).alloc (Nat.le_refl _) _).alloc (by simp) _
  go_enter Tryz.func15, Tryz.ntmps15
  go_upto_region 1 with fail
  generalize World.alloc _ _ = W1 at hX hY hB ⊢
  have x0 := hX.cell 0 _ rfl
  have x1 := hX.cell 1 _ rfl
  have x2 := hX.cell 2 _ rfl
  have x3 := hX.cell 3 _ rfl
  have x4 := hX.cell 4 _ rfl
  have x5 := hX.cell 5 _ rfl
  have x6 := hX.cell 6 _ rfl
  have y0 := hY.cell 0 _ rfl
  have y1 := hY.cell 1 _ rfl
  have y2 := hY.cell 2 _ rfl
  have y3 := hY.cell 3 _ rfl
  have y4 := hY.cell 4 _ rfl
  have y5 := hY.cell 5 _ rfl
  have y6 := hY.cell 6 _ rfl
  go_wp2_with fail
  refine (hk _ (HV.out.below hB) (HU.out.below hB)).mono ?_
  rintro en w2 ⟨rfl, hb⟩
  have hB2 := hB.trans (hb.mono hB.size)
  have z6 := (hX.below hb).cell 6 _ rfl
  have q6 := (hY.below hb).cell 6 _ rfl
  clear hX hY
  go_wp2_with fail
  go_ret
  exact ⟨rfl, hB2⟩

/-- A row of messages that can be read. -/
def MRow (w : World) (u : Value) (l : List MV) : Prop := ∃ (a : Option Addr) (cap : Nat), u = .slice a l.length cap ∧ l.length ≤ cap ∧
  ∀ k (h : k < l.length), ∃ g, a = some ⟨g, 0, none⟩ ∧ g < w.heap.size ∧ w.rangeAt g (k * 7) (l[k].1.cs l[k].2) ∧ FR w l[k].2 l[k].1.L
theorem MRow.below {w w' : World} {u : Value} {l : List MV} (h : MRow w u l) (hb : Below w.heap.size w w') : MRow w' u l := by
  obtain ⟨a, cap, h1, h2, h3⟩ := h
  refine ⟨a, cap, h1, h2, fun k hk => ?_⟩
  obtain ⟨g, e, hg, c, f⟩ := h3 k hk
  exact ⟨g, e, Nat.lt_of_lt_of_le hg hb.size, fun j v hj => (hb.cell (p := ⟨g, k * 7 + j, none⟩) hg).trans (c j v hj), f.below hb⟩
theorem cs_len (m : Ms) (v : Value) : (m.cs v).length = 7 := rfl
theorem mcells_at : ∀ (l : List MV) (k : Nat) (h : k < l.length) (j : Nat), j < 7 → (mcells l)[k * 7 + j]? = (l[k].1.cs l[k].2)[j]?
  | [], k, h, _, _ => absurd h (Nat.not_lt_zero _)
  | x :: l, 0, h, j, hj => by
    unfold mcells
    rw [List.flatMap_cons, List.getElem?_append_left (by rw [cs_len]; omega), Nat.zero_mul, Nat.zero_add]; rfl
  | x :: l, k + 1, h, j, hj => by
    unfold mcells
    rw [List.flatMap_cons, List.getElem?_append_right (by rw [cs_len]; omega), cs_len, show (k + 1) * 7 + j - 7 = k * 7 + j by omega]
    exact mcells_at l k (by simpa using h) j hj
theorem MR.mrow {w : World} {base : Nat} {u : Value} {l : List MV} (h : MR w base u l) : MRow w u l := by
  rcases h.own.2 with ⟨rfl, h0⟩ | ⟨g, cap, cur, rfl, h2, h3, h4, h5⟩
  · exact ⟨none, 0, by rw [h0], by omega, fun k hk => absurd hk (by omega)⟩
  · refine ⟨some ⟨g, 0, none⟩, cap, rfl, h4, fun k hk => ⟨g, rfl, (Array.getElem?_eq_some_iff.1 h3).1, fun j v hj => ?_, h.row _ (List.getElem_mem hk)⟩⟩
    have hj7 : j < 7 := by
      have := (List.getElem?_eq_some_iff.1 hj).1
      rwa [cs_len] at this
    have := World.ownsRow.cells h.own (g := g) rfl (k * 7 + j) v (by rw [mcells_at l k hk j hj7]; exact hj)
    rwa [add_none, Nat.zero_add] at this

set_option maxHeartbeats 4000000 in
theorem sameM_any (l m : List MV) (u v : Value) (w : World) (hu : MRow w u l) (hv : MRow w v m) (he : l.map Prod.fst = m.map Prod.fst) (hl : l.length ≤ 1000000) (hL : ∀ x ∈ l, x.1.L.length ≤ 1000000) :
    Calls Tryz.prog 10 #[u, v] w fun en w' => en = .returned (.bool true) ∧ Below w.heap.size w w' := by
  have hlm : l.length = m.length := by simpa using congrArg List.length he
  have HU := hide hu
  have HV := hide hv
  have HL := hide hL
  have HE := hide he
  obtain ⟨ua, uc, hu1, hu2, -⟩ := hu
  obtain ⟨va, vc, hv1, hv2, -⟩ := hv
  subst hu1 hv1
  rw [← hlm] at HV ⊢
  have HLM := hide hlm
  clear hL he hlm hu2 hv2
  generalize hn : l.length = n at hl HU HV HLM ⊢
  have HN := hide hn
  clear hn
  go_enter Tryz.func10, Tryz.ntmps10
  go_wp2_with fail
  go_loopw [5, 13] (fun _ i wr => ∃ k : Nat, k ≤ n ∧ i = .int .i64 k ∧ Below w.heap.size w wr) (fun _ i _ => n - (intOf i).toNat)
  case atStart => exact ⟨0, Nat.zero_le _, rfl, Below.refl _ _⟩
  case round =>
    obtain ⟨k, hk, rfl, hb⟩ := hrel
    by_cases hlt : k < n
    · have hltz : (k : Int) < n := by omega
      have HU' := hide (HU.out.below hb)
      have HV' := hide (HV.out.below hb)
      obtain ⟨a1, c1, e1, -, f1⟩ := HU'.out
      obtain ⟨a2, c2, e2, -, f2⟩ := HV'.out
      obtain ⟨g1, h1, hg1, r1, q1⟩ := f1 k (by rw [HN.out]; exact hlt)
      obtain ⟨g2, h2, hg2, r2, q2⟩ := f2 k (by rw [← HLM.out]; exact hlt)
      obtain rfl : ua = some ⟨g1, 0, none⟩ := by injection e1 with h _ _; exact h.trans h1
      obtain rfl : va = some ⟨g2, 0, none⟩ := by injection e2 with h _ _; exact h.trans h2
      clear e1 e2 h1 h2
      obtain ⟨⟨x, x2⟩, hx⟩ : ∃ x, l[k]'(by rw [HN.out]; exact hlt) = x := ⟨_, rfl⟩
      obtain ⟨⟨y, y2⟩, hy⟩ : ∃ y, m[k]'(by rw [← HLM.out]; exact hlt) = y := ⟨_, rfl⟩
      have hxy : x = y := by
        have h1 : (l.map Prod.fst)[k]? = some x := by rw [List.getElem?_map, List.getElem?_eq_getElem (by rw [HN.out]; exact hlt), hx]; rfl
        have h2 : (m.map Prod.fst)[k]? = some y := by rw [List.getElem?_map, List.getElem?_eq_getElem (by rw [← HLM.out]; exact hlt), hy]; rfl
        rw [HE.out, h2] at h1
        exact (Option.some.inj h1).symm
      subst hxy
      have hxl : x.L.length ≤ 1000000 := by have := HL.out _ (List.getElem_mem (l := l) (by rw [HN.out]; exact hlt)); rw [hx] at this; exact this
      rw [hx] at r1 q1
      rw [hy] at r2 q2
      have hlk := fun W h1 h2 => likeM_any x x2 y2 W h1 h2 hxl
      have HQ := hide (And.intro q1 q2)
      have HB := hide hb
      clear q1 q2 hxl hx hy f1 f2 HU' HV' HE HL HLM HN HU HV hb
      simp only at r1 r2
      unfold Ms.v at hlk
      go_wp2_with fail
      refine wp_region_held_drew (S := (fun w' => w'.rangeAt g1 (k * 7) (x.cs x2) ∧ w'.rangeAt g2 (k * 7) (x.cs y2))) (by kernel_rfl) (⟨r1, r2⟩) (fun hHeld => ?_)
      refine wpAnyH_take (i := 0) (oi := _) (v := .slice (some ⟨g1, 0, none⟩) n uc) rfl (by kernel_rfl) (by kernel_rfl) (by kernel_rfl) (fun _ _ _ h => h) (Or.inl ⟨by rfl, fun wS hSw => by go_simp⟩) (by first | trivial | assumption) ?_
      simp only [Act.put, List.getElem_toArray, List.getElem_cons_zero, List.getElem_cons_succ, List.setIfInBounds_toArray, List.set_cons_zero, List.set_cons_succ]
      refine wpAnyH_take (i := 1) (oi := _) (v := .int .i64 k) rfl (by kernel_rfl) (by kernel_rfl) (by kernel_rfl) (fun _ _ _ h => h) (Or.inl ⟨by rfl, fun wS hSw => by go_simp⟩) (by first | trivial | assumption) ?_
      simp only [Act.put, List.getElem_toArray, List.getElem_cons_zero, List.getElem_cons_succ, List.setIfInBounds_toArray, List.set_cons_zero, List.set_cons_succ]
      refine wpAnyH_take (i := 2) (oi := _) (v := .pointer (some ⟨g1, k * 7, none⟩)) rfl (by kernel_rfl) (by kernel_rfl) (by kernel_rfl) (fun _ _ _ h => h) (Or.inl ⟨by rfl, fun wS hSw => by go_simp⟩) (by first | trivial | assumption) ?_
      simp only [Act.put, List.getElem_toArray, List.getElem_cons_zero, List.getElem_cons_succ, List.setIfInBounds_toArray, List.set_cons_zero, List.set_cons_succ]
      refine wpAnyH_take (i := 3) (oi := _) (v := .agg (x.cs x2).toArray) rfl (by kernel_rfl) (by kernel_rfl) (by kernel_rfl) (fun _ _ _ h => h) (yieldsIf_load_mid (by kernel_rfl) 26 (.tmp 18) rfl g1 (k * 7) rfl _ _ (fun _ hS => hS.1) Tryz.underlying26 rfl (by kernel_rfl)) (by first | trivial | assumption) ?_
      simp only [Act.put, List.getElem_toArray, List.getElem_cons_zero, List.getElem_cons_succ, List.setIfInBounds_toArray, List.set_cons_zero, List.set_cons_succ]
      refine wpAnyH_take (i := 4) (oi := _) (v := .slice (some ⟨g2, 0, none⟩) n vc) rfl (by kernel_rfl) (by kernel_rfl) (by kernel_rfl) (fun _ _ _ h => h) (Or.inl ⟨by rfl, fun wS hSw => by go_simp⟩) (by first | trivial | assumption) ?_
      simp only [Act.put, List.getElem_toArray, List.getElem_cons_zero, List.getElem_cons_succ, List.setIfInBounds_toArray, List.set_cons_zero, List.set_cons_succ]
      refine wpAnyH_take (i := 5) (oi := _) (v := .int .i64 k) rfl (by kernel_rfl) (by kernel_rfl) (by kernel_rfl) (fun _ _ _ h => h) (Or.inl ⟨by rfl, fun wS hSw => by go_simp⟩) (by first | trivial | assumption) ?_
      simp only [Act.put, List.getElem_toArray, List.getElem_cons_zero, List.getElem_cons_succ, List.setIfInBounds_toArray, List.set_cons_zero, List.set_cons_succ]
      refine wpAnyH_take (i := 6) (oi := _) (v := .pointer (some ⟨g2, k * 7, none⟩)) rfl (by kernel_rfl) (by kernel_rfl) (by kernel_rfl) (fun _ _ _ h => h) (Or.inl ⟨by rfl, fun wS hSw => by go_simp⟩) (by first | trivial | assumption) ?_
      simp only [Act.put, List.getElem_toArray, List.getElem_cons_zero, List.getElem_cons_succ, List.setIfInBounds_toArray, List.set_cons_zero, List.set_cons_succ]
      refine wpAnyH_take (i := 7) (oi := _) (v := .agg (x.cs y2).toArray) rfl (by kernel_rfl) (by kernel_rfl) (by kernel_rfl) (fun _ _ _ h => h) (yieldsIf_load_mid (by kernel_rfl) 26 (.tmp 22) rfl g2 (k * 7) rfl _ _ (fun _ hS => hS.2) Tryz.underlying26 rfl (by kernel_rfl)) (by first | trivial | assumption) ?_
      simp only [Act.put, List.getElem_toArray, List.getElem_cons_zero, List.getElem_cons_succ, List.setIfInBounds_toArray, List.set_cons_zero, List.set_cons_succ]
      refine wpAnyH_ready (rs := [8]) (by kernel_rfl) (by simp) ?_
      refine AllReadyH.cons (o := _) rfl (fun K hK => ?_) AllReadyH.nil
      go_simp
      have hdr : Below wr.heap.size wr wr.drew := ⟨rfl, rfl, rfl, Nat.le_refl _, fun _ _ => rfl⟩
      refine (hlk _ (HQ.out.1.row.below hdr) (HQ.out.2.row.below hdr)).mono ?_
      rintro en w2 ⟨rfl, hb2⟩
      go_simp
      refine hK.out _ _ (⟨fun j v hj => (hb2.cell (p := ⟨g1, k * 7 + j, none⟩) hg1).trans (r1 j v hj), fun j v hj => (hb2.cell (p := ⟨g2, k * 7 + j, none⟩) hg2).trans (r2 j v hj)⟩) (fun hHeld => ?_)
      clear hK K
      refine wpAnyH_take (i := 9) (oi := _) (v := .bool false) rfl (by kernel_rfl) (by kernel_rfl) (by kernel_rfl) (fun _ _ _ h => h) (Or.inl ⟨by rfl, fun wS hSw => by go_simp⟩) (by first | trivial | assumption) ?_
      simp only [Act.put, List.getElem_toArray, List.getElem_cons_zero, List.getElem_cons_succ, List.setIfInBounds_toArray, List.set_cons_zero, List.set_cons_succ]
      refine wpAnyH_done (by kernel_rfl) ?_ _
      go_wp2_with fail
      exact ⟨⟨k + 1, by omega, by go_num, HB.out.trans ((hdr.trans hb2).mono HB.out.size)⟩, by simp [intOf]; omega⟩
    · have hd : decide ((k : Int) < n) = false := decide_eq_false (by omega)
      go_wp2_with fail
      go_ret
      exact ⟨rfl, hb⟩

theorem likeR_any (r : Rr) (v u : Value) (w : World) (hv : Row w v r.m.L) (hu : Row w u r.m.L) (hl : r.m.L.length ≤ 1000000) :
    Calls Tryz.prog 14 #[r.v v, r.v u] w fun en w' => en = .returned (.bool true) ∧ Below w.heap.size w w' := by
  have hk := fun W h1 h2 => likeM_any r.m v u W h1 h2 hl
  obtain ⟨va, vc, rfl⟩ := hv.slice
  obtain ⟨ua, uc, rfl⟩ := hu.slice
  obtain ⟨a, t, buf, i, ⟨⟨sm, st, sc, sr, sn⟩, L, b⟩, k, z, ⟨cs, cl, cf, cz⟩, e⟩ := r
  unfold Rr.v
  unfold Ms.v at hk
  simp only at hv hu hk ⊢
  generalize L.length = n at hv hu hk ⊢
  generalize Ck.bs b = mb at hk ⊢
  generalize Ck.bs buf = bb
  have HV := hide hv
  have HU := hide hu
  clear hv hu hl
  have hX : Blk ((w.alloc (.cells #[.bool a, .string t, .string bb, .bool i, .string sm, .string st, .int .i64 sc, .string sr, .int .i64 sn, .slice va n vc, .string mb, .int .i64 k, .int .i64 z, .int .i64 cs, .string cl, .int .i64 cf, .int .i64 cz, .int .i64 e] 33)).alloc (.cells #[.bool a, .string t, .string bb, .bool i, .string sm, .string st, .int .i64 sc, .string sr, .int .i64 sn, .slice ua n uc, .string mb, .int .i64 k, .int .i64 z, .int .i64 cs, .string cl, .int .i64 cf, .int .i64 cz, .int .i64 e] 33)) w.heap.size 33 [.bool a, .string t, .string bb, .bool i, .string sm, .string st, .int .i64 sc, .string sr, .int .i64 sn, .slice va n vc, .string mb, .int .i64 k, .int .i64 z, .int .i64 cs, .string cl, .int .i64 cf, .int .i64 cz, .int .i64 e] := (Blk.new w 33 _).alloc _
  have hY : Blk ((w.alloc (.cells #[.bool a, .string t, .string bb, .bool i, .string sm, .string st, .int .i64 sc, .string sr, .int .i64 sn, .slice va n vc, .string mb, .int .i64 k, .int .i64 z, .int .i64 cs, .string cl, .int .i64 cf, .int .i64 cz, .int .i64 e] 33)).alloc (.cells #[.bool a, .string t, .string bb, .bool i, .string sm, .string st, .int .i64 sc, .string sr, .int .i64 sn, .slice ua n uc, .string mb, .int .i64 k, .int .i64 z, .int .i64 cs, .string cl, .int .i64 cf, .int .i64 cz, .int .i64 e] 33)) (w.heap.size + 1) 33 [.bool a, .string t, .string bb, .bool i, .string sm, .string st, .int .i64 sc, .string sr, .int .i64 sn, .slice ua n uc, .string mb, .int .i64 k, .int .i64 z, .int .i64 cs, .string cl, .int .i64 cf, .int .i64 cz, .int .i64 e] := by
    have := Blk.new (w.alloc (.cells #[.bool a, .string t, .string bb, .bool i, .string sm, .string st, .int .i64 sc, .string sr, .int .i64 sn, .slice va n vc, .string mb, .int .i64 k, .int .i64 z, .int .i64 cs, .string cl, .int .i64 cf, .int .i64 cz, .int .i64 e] 33)) 33 [.bool a, .string t, .string bb, .bool i, .string sm, .string st, .int .i64 sc, .string sr, .int .i64 sn, .slice ua n uc, .string mb, .int .i64 k, .int .i64 z, .int .i64 cs, .string cl, .int .i64 cf, .int .i64 cz, .int .i64 e]
    simpa using this
  have hB : Below w.heap.size w ((w.alloc (.cells #[.bool a, .string t, .string bb, .bool i, .string sm, .string st, .int .i64 sc, .string sr, .int .i64 sn, .slice va n vc, .string mb, .int .i64 k, .int .i64 z, .int .i64 cs, .string cl, .int .i64 cf, .int .i64 cz, .int .i64 e] 33)).alloc (.cells #[.bool a, .string t, .string bb, .bool i, .string sm, .string st, .int .i64 sc, .string sr, .int .i64 sn, .slice ua n uc, .string mb, .int .i64 k, .int .i64 z, .int .i64 cs, .string cl, .int .i64 cf, .int .i64 cz, .int .i64 e] 33)) := ((Below.refl _ _).alloc (Nat.le_refl _) _).alloc (by simp) _
  go_enter Tryz.func14, Tryz.ntmps14
  go_upto_region 1 with fail
  generalize World.alloc _ _ = W1 at hX hY hB ⊢
  have x0 := hX.cell 0 _ rfl
  have x1 := hX.cell 1 _ rfl
  have x2 := hX.cell 2 _ rfl
  have x3 := hX.cell 3 _ rfl
  have x4 := hX.cell 4 _ rfl
  have x5 := hX.cell 5 _ rfl
  have x6 := hX.cell 6 _ rfl
  have x7 := hX.cell 7 _ rfl
  have x8 := hX.cell 8 _ rfl
  have x9 := hX.cell 9 _ rfl
  have x10 := hX.cell 10 _ rfl
  have y0 := hY.cell 0 _ rfl
  have y1 := hY.cell 1 _ rfl
  have y2 := hY.cell 2 _ rfl
  have y3 := hY.cell 3 _ rfl
  have y4 := hY.cell 4 _ rfl
  have y5 := hY.cell 5 _ rfl
  have y6 := hY.cell 6 _ rfl
  have y7 := hY.cell 7 _ rfl
  have y8 := hY.cell 8 _ rfl
  have y9 := hY.cell 9 _ rfl
  have y10 := hY.cell 10 _ rfl
  go_wp2_with fail
  refine (hk _ (HV.out.below hB) (HU.out.below hB)).mono ?_
  rintro en w2 ⟨rfl, hb⟩
  have hB2 := hB.trans (hb.mono hB.size)
  replace hX := hX.below hb
  replace hY := hY.below hb
  clear x0 y0 x1 y1 x2 y2 x3 y3 x4 y4 x5 y5 x6 y6 x7 y7 x8 y8 x9 y9 x10 y10
  have p11 := hX.cell 11 _ rfl
  have p12 := hX.cell 12 _ rfl
  have p13 := hX.cell 13 _ rfl
  have p14 := hX.cell 14 _ rfl
  have p15 := hX.cell 15 _ rfl
  have p16 := hX.cell 16 _ rfl
  have p17 := hX.cell 17 _ rfl
  have q11 := hY.cell 11 _ rfl
  have q12 := hY.cell 12 _ rfl
  have q13 := hY.cell 13 _ rfl
  have q14 := hY.cell 14 _ rfl
  have q15 := hY.cell 15 _ rfl
  have q16 := hY.cell 16 _ rfl
  have q17 := hY.cell 17 _ rfl
  clear hX hY
  go_wp2_with fail
  go_ret
  exact ⟨rfl, hB2⟩

end Go.Proofs.YtmpijlaidnhpnaaGreat

namespace Go.Proofs.YtmpijlaidnhpnaaGreat
set_option linter.unusedVariables false
set_option linter.unusedSimpArgs false
set_option maxRecDepth 100000
open Go.RowKit Go.Great

theorem sets_all : ∀ (cs pre xs : List Value), xs.length = cs.length → sets (pre ++ xs) pre.length cs = pre ++ cs
  | [], pre, xs, h => by rw [List.eq_nil_of_length_eq_zero h]; rfl
  | c :: cs, pre, [], h => absurd h (by simp)
  | c :: cs, pre, x :: xs, h => by
    have e : (pre ++ x :: xs).set pre.length c = (pre ++ [c]) ++ xs := by simp [List.set_append]
    have := sets_all cs (pre ++ [c]) xs (by simpa using h)
    rw [sets, e, show pre.length + 1 = (pre ++ [c]).length by simp, this, List.append_assoc]; rfl
theorem sets_whole {cs xs : List Value} (h : xs.length = cs.length) : sets xs 0 cs = cs := sets_all cs [] xs h

/-- A reader that is laid and written at once. -/
theorem boxed {ops : Array Oper} {rest : List Oper} {o p : Oper} {a : Act} {w : World} {Q : Exit → Act → World → Prop} (hg : o.guard = none) (ho : o.op = .alloc 33) (dst : Tmp) (hd : o.dst = some dst)
    (gg : p.guard = none) (y : Operand) (hp : p.op = .store 33 (.tmp dst) y) (hpd : p.dst = none) (cs : List Value) (hl : cs.length = 18) (h1 : cs.toArray.all (·.oneCell') = true) (ha : (a.put (some dst) (.pointer (some ⟨w.heap.size, 0, none⟩))).eval (.tmp dst) = .pointer (some ⟨w.heap.size, 0, none⟩))
    (hy : (a.put (some dst) (.pointer (some ⟨w.heap.size, 0, none⟩))).eval y = .agg cs.toArray)
    (h : ∀ W, Blk W w.heap.size 33 cs → Below w.heap.size w W → wpList Tryz.prog ops Q rest (a.put (some dst) (.pointer (some ⟨w.heap.size, 0, none⟩))) W) : wpList Tryz.prog ops Q (o :: p :: rest) a w := by
  have hZ := Blk.new w 33 [.bool false, .string ⟨#[]⟩, .string ⟨#[]⟩, .bool false, .string ⟨#[]⟩, .string ⟨#[]⟩, .int .i64 0, .string ⟨#[]⟩, .int .i64 0, .slice none 0 0, .string ⟨#[]⟩, .int .i64 0, .int .i64 0, .int .i64 0, .string ⟨#[]⟩, .int .i64 0, .int .i64 0, .int .i64 0]
  have hB : Below w.heap.size w (w.alloc (.cells #[.bool false, .string ⟨#[]⟩, .string ⟨#[]⟩, .bool false, .string ⟨#[]⟩, .string ⟨#[]⟩, .int .i64 0, .string ⟨#[]⟩, .int .i64 0, .slice none 0 0, .string ⟨#[]⟩, .int .i64 0, .int .i64 0, .int .i64 0, .string ⟨#[]⟩, .int .i64 0, .int .i64 0, .int .i64 0] 33)) := (Below.refl _ _).alloc (Nat.le_refl _) _
  refine wpList_allocTo hg (some dst) hd (.pointer (some ⟨w.heap.size, 0, none⟩)) (.cells #[.bool false, .string ⟨#[]⟩, .string ⟨#[]⟩, .bool false, .string ⟨#[]⟩, .string ⟨#[]⟩, .int .i64 0, .string ⟨#[]⟩, .int .i64 0, .slice none 0 0, .string ⟨#[]⟩, .int .i64 0, .int .i64 0, .int .i64 0, .string ⟨#[]⟩, .int .i64 0, .int .i64 0, .int .i64 0] 33) ?_ ?_
  · unfold execOp
    rw [ho]
    go_simp
  · refine wpList_store_mid gg 33 (.tmp dst) y hp w.heap.size 0 cs.toArray ha hy (hZ.there 0 _ (by simp [hl])) (by rw [List.size_toArray, hl]; kernel_rfl) h1 ?_
    rw [hpd]
    refine h _ ?_ (hB.trans (below_only (only_sets _ 0 (only_refl _ _)) (Nat.le_refl _) hB.size))
    have := hZ.sets cs 0 (by simp [hl])
    rw [sets_whole (by simp [hl])] at this
    exact this

theorem alive_fd : fdG (fresh true ⟨#[]⟩ []) [71, 69, 84, 32, 47, 32, 72, 84, 84, 80, 47, 49, 46, 49, 13, 10, 13, 10] = (fresh true ⟨#[]⟩ [], [⟨⟨⟨#[71, 69, 84]⟩, ⟨#[47]⟩, 0, ⟨#[]⟩, 1⟩, [], []⟩]) := by kernel_rfl

theorem feed_fresh (a : Bool) (t : ByteArray) (s : List UInt8) (w : World) (hs : s.length ≤ 45000) :
    Calls Tryz.prog 7 #[(fresh a t []).v (.slice none 0 0), .string (Ck.bs s)] w fun en w' => Fed w' w.heap.size (fdG (fresh a t []) s) en ∧ Below w.heap.size w w' :=
  feed_good (fresh a t []) (.slice none 0 0) s w (Row.nil w) ⟨show 0 ≤ 10000 by decide, show 0 ≤ 10000 by decide, show 0 ≤ 10000 by decide⟩ (show 0 ≤ 50 by decide) (fun f hf => absurd hf (by simp [fresh, Ms.no])) (show 0 ≤ 1000000 by decide) (show 0 ≤ 1000000 by decide) (by simpa [fresh] using hs) (by rw [rg_wait]; exact ⟨mid_fresh _ _ _, fun _ => by simp [fresh], fun h => nope h⟩)

theorem range_below {w w' : World} {g o : Nat} {cs : List Value} (h : w.rangeAt g o cs) (hg : g < w.heap.size) (hb : Below w.heap.size w w') : w'.rangeAt g o cs :=
  fun j v hj => (hb.cell (p := ⟨g, o + j, none⟩) hg).trans (h j v hj)

theorem alive_any (w : World) : Calls Tryz.prog 12 #[] w fun en w' => en = .returned (.bool true) ∧ Below w.heap.size w w' := by
  have hf := fun W => feed_fresh true ⟨#[]⟩ [71, 69, 84, 32, 47, 32, 72, 84, 84, 80, 47, 49, 46, 49, 13, 10, 13, 10] W (by decide)
  rw [alive_fd] at hf
  go_enter Tryz.func12, Tryz.ntmps12
  go_wp2_with fail
  refine (new_any true ⟨#[]⟩ _).mono ?_
  rintro en w1 ⟨rfl, hb1⟩
  go_wp2_with fail
  refine (hf _).mono ?_
  rintro en w2 ⟨⟨va, vc, u, l, rfl, hF, hM, hl⟩, hb2⟩
  obtain ⟨x, rfl⟩ : ∃ x, l = [((⟨⟨⟨#[71, 69, 84]⟩, ⟨#[47]⟩, 0, ⟨#[]⟩, 1⟩, [], []⟩ : Ms), x)] := by
    match l, hl with
    | [(m, x)], hl => exact ⟨x, by simp at hl; rw [hl]⟩
  obtain ⟨a1, c1, rfl, -, hcell⟩ := hM.mrow
  obtain ⟨g, rfl, hg, hr, -⟩ := hcell 0 (show 0 < 1 by decide)
  have HR := hide hr
  have hB := hb1.trans (hb2.mono hb1.size)
  clear hcell hM hF hf hr hl
  go_wp2_with (refine boxed rfl rfl _ rfl rfl _ rfl rfl ((fresh true ⟨#[]⟩ []).cs (.slice va 0 vc)) rfl (by kernel_rfl) rfl rfl ?_; intro W hX hBW; have r0 : W.cell? ⟨g, 0, none⟩ = some (.string ⟨#[71, 69, 84]⟩) := (range_below HR.out hg hBW) 0 _ rfl; have r1 : W.cell? ⟨g, 1, none⟩ = some (.string ⟨#[47]⟩) := (range_below HR.out hg hBW) 1 _ rfl; have r2 : W.cell? ⟨g, 2, none⟩ = some (.int .i64 0) := (range_below HR.out hg hBW) 2 _ rfl; have r3 : W.cell? ⟨g, 3, none⟩ = some (.string ⟨#[]⟩) := (range_below HR.out hg hBW) 3 _ rfl; have r4 : W.cell? ⟨g, 4, none⟩ = some (.int .i64 1) := (range_below HR.out hg hBW) 4 _ rfl)
  go_ret
  exact ⟨rfl, hB.trans (hBW.mono hB.size)⟩

end Go.Proofs.YtmpijlaidnhpnaaGreat
