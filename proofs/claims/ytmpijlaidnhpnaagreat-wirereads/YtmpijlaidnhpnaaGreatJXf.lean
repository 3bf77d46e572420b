/- The walk of what reads a body on. The walks of what tells how long a body is, and of a head. -/
import Derived.Test.YtmpijlaidnhpnaaGreatJXe
namespace Go.Proofs.YtmpijlaidnhpnaaGreat
set_option linter.unusedVariables false
set_option linter.unusedSimpArgs false
set_option maxRecDepth 100000
open Go.RowKit Ck

theorem Tryz.info26 : (Tryz.prog.info? 26).map (fun i => (i.zero, i.size, i.bytes)) = some (some (.agg #[.string ⟨#[]⟩, .string ⟨#[]⟩, .int .i64 0, .string ⟨#[]⟩, .int .i64 0, .slice none 0 0, .string ⟨#[]⟩]), 7, 104) := by kernel_rfl
theorem mcells_len (l : List MV) : (mcells l).length = l.length * 7 := by
  induction l with
  | nil => rfl
  | cons x l ih => rw [show mcells (x :: l) = x.1.cs x.2 ++ mcells l from rfl, List.length_append, ih]; simp [Ms.cs]; omega
theorem mcells_snoc (l : List MV) (x : MV) : mcells (l ++ [x]) = mcells l ++ x.1.cs x.2 := by simp [mcells]
theorem MR.more {w w' : World} {base : Nat} {u u' : Value} {l : List MV} {m : Ms} {v : Value} (h : MR w base u l) (ho : w'.ownsRow base 26 7 u' (l.length + 1) (mcells l ++ m.cs v)) (hk : Kf w w') (hv : FR w v m.L) : MR w' base u' (l ++ [(m, v)]) := by
  refine ⟨?_, ?_⟩
  · rw [List.length_append, mcells_snoc]; exact ho
  · intro x hx
    rcases List.mem_append.1 hx with hx | hx
    · exact (h.row x hx).keep hk
    · obtain rfl : x = (m, v) := by simpa using hx
      exact hv.keep hk
theorem owns_form {w : World} {base : Nat} {e : TypeId} {size : Nat} {u : Value} {n : Nat} {xs : List Value} (h : w.ownsRow base e size u n xs) : ∃ a c, u = .slice a n c := by
  rcases h.2 with ⟨rfl, h0⟩ | ⟨g, cap, cur, rfl, -⟩
  · exact ⟨none, 0, by rw [h0]⟩
  · exact ⟨_, _, rfl⟩
theorem Kf.grown {w w' : World} {u : Value} (hg : w.grownBy w' u.ownBlock) (h : ∀ g, u.ownBlock = some g → ty w g ≠ some 68) : Kf w w' :=
  ⟨hg.size, fun b hb => hg.block b (ty_lt hb) (fun e => h b e.symm hb)⟩
theorem row_new (w : World) (cs : List Value) (t : TypeId) : ∀ (j : Nat) (x : Value), cs[j]? = some x → (w.alloc (.cells cs.toArray t)).cell? ((⟨w.heap.size, 0, none⟩ : Addr).add j) = some x := by
  intro j x hx
  rw [Addr.add_mid, Nat.zero_add, World.cell?_alloc_new]
  simpa using hx

/-- A reader lies in block N, with whole messages: those that were there, and these. -/
def Red (w : World) (N : Nat) (q : Rr) (l : List MV) (o : List Ms) : Prop := ∃ v u l', Blk w N 58 (q.gs v u) ∧ FR w v q.m.L ∧ MR w (N + 1) u l' ∧ l'.map Prod.fst = l.map Prod.fst ++ o

set_option maxHeartbeats 16000000 in
theorem body_any (r : Rr) (v u : Value) (N : Nat) (w : World) (l : List MV) (h : Blk w N 58 (r.gs v u)) (hv : FR w v r.m.L) (hu : MR w (N + 1) u l) (hm : Mid r) (hi : r.i = true) (hbl : r.buf.length ≤ 100000) (hl : l.length ≤ 100000) :
    Calls Tryz.prog 45 #[.pointer (some ⟨N, 0, none⟩)] w fun en w' => en = .returned (.bool (partB r).1) ∧ Red w' N (partB r).2.1 l (partB r).2.2 ∧ Below N w w' := by
  have hlt := h.lt
  have hty := h.ty
  have hc := takeBody_any r v u N w h hm hi hbl
  obtain ⟨ha, ht, hL, hq⟩ := tb_at r
  rw [tb_part r]
  have hv' : FR w v (tbF r).2.2.m.L := by rw [hL]; exact hv
  obtain ⟨⟨B, E, q⟩, hB⟩ : ∃ x, tbF r = x := ⟨_, rfl⟩
  rw [hB] at hc ha ht hq hv' ⊢
  simp only at hc ha ht hq hv' ⊢
  rw [← ha, ← ht]
  have hql : q.buf.length ≤ 100000 := by omega
  clear hB hL hv ha ht hq hm hi hbl h
  by_cases hE : E = 0
  · subst hE
    rw [if_neg (show ¬ (0 : Int) ≠ 0 by decide)]
    cases B
    · rw [if_neg (show ¬ false = true by decide)]
      go_enter Tryz.func45, Tryz.ntmps45
      go_wp2_with fail
      refine hc.mono ?_
      rintro en w1 ⟨rfl, hb1, ho1⟩
      go_wp2_with fail
      go_ret
      exact ⟨rfl, ⟨v, u, l, hb1, hv'.keep (Kf.only ho1 (by rw [hty]; decide)), hu.only ho1 (by rw [hty]; decide) (by rw [hty]; decide), by simp⟩, below_only ho1 (Nat.le_refl _) (Nat.le_of_lt hlt)⟩
    · rw [if_pos rfl]
      go_enter Tryz.func45, Tryz.ntmps45
      go_wp2_with fail
      refine hc.mono ?_
      rintro en w1 ⟨rfl, h, ho1⟩
      clear hc
      go_wp2_with fail
      have hv1 := hv'.keep (Kf.only ho1 (by rw [hty]; decide))
      have hu1 := hu.only ho1 (by rw [hty]; decide) (by rw [hty]; decide)
      have hB1 := below_only ho1 (Nat.le_refl _) (Nat.le_of_lt hlt)
      have hlt1 := h.lt
      clear hv' hu ho1 hlt
      obtain ⟨va, vc, rfl⟩ := hv1.row.slice
      obtain ⟨i0, hi0, hz0, hz1, hz2⟩ := info_parts Tryz.info26
      obtain ⟨a, t, buf, i, ⟨⟨sm, st, sc, sr, sn⟩, L, b⟩, k, z, ⟨cst, cln, clf, csz⟩, e⟩ := q
      simp only at hv1 hql ⊢
      generalize L.length = vn at h hv1 ⊢
      have hM := Blk.new w1 26 [.string sm, .string st, .int .i64 sc, .string sr, .int .i64 sn, .slice va vn vc, .string (Ck.bs b)]
      have hA := h.alloc (.cells #[.string sm, .string st, .int .i64 sc, .string sr, .int .i64 sn, .slice va vn vc, .string (Ck.bs b)] 26)
      have hOA := owns_below hu1.own (((Below.refl _ w1).alloc (Nat.le_refl _) (.cells #[.string sm, .string st, .int .i64 sc, .string sr, .int .i64 sn, .slice va vn vc, .string (Ck.bs b)] 26)))
      have hrn := row_new w1 [.string sm, .string st, .int .i64 sc, .string sr, .int .i64 sn, .slice va vn vc, .string (Ck.bs b)] 26
      have hzA : w1.heap.size ≤ (w1.alloc (.cells #[.string sm, .string st, .int .i64 sc, .string sr, .int .i64 sn, .slice va vn vc, .string (Ck.bs b)] 26)).heap.size := by simp
      have hBA := hB1.alloc (Nat.le_of_lt hlt1) (.cells #[.string sm, .string st, .int .i64 sc, .string sr, .int .i64 sn, .slice va vn vc, .string (Ck.bs b)] 26)
      have hRA : ∀ x ∈ l, FR (w1.alloc (.cells #[.string sm, .string st, .int .i64 sc, .string sr, .int .i64 sn, .slice va vn vc, .string (Ck.bs b)] 26)) x.2 x.1.L := fun x hx => (hu1.row x hx).below ((Below.refl _ w1).alloc (Nat.le_refl _) _)
      have hVA := hv1.below ((Below.refl _ w1).alloc (Nat.le_refl _) (.cells #[.string sm, .string st, .int .i64 sc, .string sr, .int .i64 sn, .slice va vn vc, .string (Ck.bs b)] 26))
      change ∀ (j : Nat) (x : Value), ([.string sm, .string st, .int .i64 sc, .string sr, .int .i64 sn, .slice va vn vc, .string (Ck.bs b)] : List Value)[j]? = some x → (w1.alloc (.cells #[.string sm, .string st, .int .i64 sc, .string sr, .int .i64 sn, .slice va vn vc, .string (Ck.bs b)] 26)).cell? _ = some x at hrn
      refine region_upTo 14 14 14 (fun w' => Blk w' N 58 (Rr.gs ⟨a, t, buf, i, ⟨⟨sm, st, sc, sr, sn⟩, L, b⟩, k, z, ⟨cst, cln, clf, csz⟩, e⟩ (.slice va vn vc) u)) (fun _ => True) (fun _ => True) (by kernel_rfl) ⟨h.drew, trivial, trivial⟩ (fun hHeld => ?_)
      refine upTo_take 12 (S := fun _ => True) (i := 0) (oi := _) (v := .pointer (some ⟨N, 0, none⟩)) rfl (by kernel_rfl) (by kernel_rfl) (by kernel_rfl) (fun _ _ _ h => h) (by decide) (by kernel_rfl) (by kernel_rfl) (fun _ _ _ _ => trivial) hHeld (Or.inl ⟨by rfl, fun wS hSw => by go_simp⟩) (fun hHeld => ?_)
      simp only [Act.put, List.getElem_toArray, List.getElem_cons_zero, List.getElem_cons_succ, List.setIfInBounds_toArray, List.set_cons_zero, List.set_cons_succ]
      refine upTo_take 2 (S := fun _ => True) (i := 1) (oi := _) (v := .pointer (some ⟨N, 0, none⟩)) rfl (by kernel_rfl) (by kernel_rfl) (by kernel_rfl) (fun _ _ _ h => h) (by decide) (by kernel_rfl) (by kernel_rfl) (fun _ _ _ _ => trivial) hHeld (Or.inl ⟨by rfl, fun wS hSw => by go_simp⟩) (fun hHeld => ?_)
      simp only [Act.put, List.getElem_toArray, List.getElem_cons_zero, List.getElem_cons_succ, List.setIfInBounds_toArray, List.set_cons_zero, List.set_cons_succ]
      refine upTo_take 3 (S := fun _ => True) (i := 2) (oi := _) (v := .pointer (some ⟨N, 0, none⟩)) rfl (by kernel_rfl) (by kernel_rfl) (by kernel_rfl) (fun _ _ _ h => h) (by decide) (by kernel_rfl) (by kernel_rfl) (fun _ _ _ _ => trivial) hHeld (Or.inl ⟨by rfl, fun wS hSw => by go_simp⟩) (fun hHeld => ?_)
      simp only [Act.put, List.getElem_toArray, List.getElem_cons_zero, List.getElem_cons_succ, List.setIfInBounds_toArray, List.set_cons_zero, List.set_cons_succ]
      refine upTo_take 4 (S := fun _ => True) (i := 3) (oi := _) (v := .pointer (some ⟨N, 18, none⟩)) rfl (by kernel_rfl) (by kernel_rfl) (by kernel_rfl) (fun _ _ _ h => h) (by decide) (by kernel_rfl) (by kernel_rfl) (fun _ _ _ _ => trivial) hHeld (Or.inl ⟨by rfl, fun wS hSw => by go_simp⟩) (fun hHeld => ?_)
      simp only [Act.put, List.getElem_toArray, List.getElem_cons_zero, List.getElem_cons_succ, List.setIfInBounds_toArray, List.set_cons_zero, List.set_cons_succ]
      refine upTo_take 14 (S := (fun w' => Blk w' N 58 (Rr.gs ⟨a, t, buf, i, ⟨⟨sm, st, sc, sr, sn⟩, L, b⟩, k, z, ⟨cst, cln, clf, csz⟩, e⟩ (.slice va vn vc) u))) (i := 4) (oi := _) (v := u) rfl (by kernel_rfl) (by kernel_rfl) (by kernel_rfl) (fun _ _ _ h => h) (by decide) (by kernel_rfl) (by kernel_rfl) (fun l w1 hh g => hh.h1 g) hHeld (Or.inl ⟨by rfl, fun wS hSw => by have l18 : World.cell? wS ⟨N, 18, none⟩ = some (u) := hSw.cell 18 _ rfl; go_simp⟩) (fun hHeld => ?_)
      simp only [Act.put, List.getElem_toArray, List.getElem_cons_zero, List.getElem_cons_succ, List.setIfInBounds_toArray, List.set_cons_zero, List.set_cons_succ]
      refine upTo_take 6 (S := fun _ => True) (i := 5) (oi := _) (v := .pointer (some ⟨N, 0, none⟩)) rfl (by kernel_rfl) (by kernel_rfl) (by kernel_rfl) (fun _ _ _ h => h) (by decide) (by kernel_rfl) (by kernel_rfl) (fun _ _ _ _ => trivial) hHeld (Or.inl ⟨by rfl, fun wS hSw => by go_simp⟩) (fun hHeld => ?_)
      simp only [Act.put, List.getElem_toArray, List.getElem_cons_zero, List.getElem_cons_succ, List.setIfInBounds_toArray, List.set_cons_zero, List.set_cons_succ]
      refine upTo_take 7 (S := fun _ => True) (i := 6) (oi := _) (v := .pointer (some ⟨N, 0, none⟩)) rfl (by kernel_rfl) (by kernel_rfl) (by kernel_rfl) (fun _ _ _ h => h) (by decide) (by kernel_rfl) (by kernel_rfl) (fun _ _ _ _ => trivial) hHeld (Or.inl ⟨by rfl, fun wS hSw => by go_simp⟩) (fun hHeld => ?_)
      simp only [Act.put, List.getElem_toArray, List.getElem_cons_zero, List.getElem_cons_succ, List.setIfInBounds_toArray, List.set_cons_zero, List.set_cons_succ]
      refine upTo_take 8 (S := fun _ => True) (i := 7) (oi := _) (v := .pointer (some ⟨N, 0, none⟩)) rfl (by kernel_rfl) (by kernel_rfl) (by kernel_rfl) (fun _ _ _ h => h) (by decide) (by kernel_rfl) (by kernel_rfl) (fun _ _ _ _ => trivial) hHeld (Or.inl ⟨by rfl, fun wS hSw => by go_simp⟩) (fun hHeld => ?_)
      simp only [Act.put, List.getElem_toArray, List.getElem_cons_zero, List.getElem_cons_succ, List.setIfInBounds_toArray, List.set_cons_zero, List.set_cons_succ]
      refine upTo_take 9 (S := fun _ => True) (i := 8) (oi := _) (v := .pointer (some ⟨N, 4, none⟩)) rfl (by kernel_rfl) (by kernel_rfl) (by kernel_rfl) (fun _ _ _ h => h) (by decide) (by kernel_rfl) (by kernel_rfl) (fun _ _ _ _ => trivial) hHeld (Or.inl ⟨by rfl, fun wS hSw => by go_simp⟩) (fun hHeld => ?_)
      simp only [Act.put, List.getElem_toArray, List.getElem_cons_zero, List.getElem_cons_succ, List.setIfInBounds_toArray, List.set_cons_zero, List.set_cons_succ]
      refine upTo_take 14 (S := (fun w' => Blk w' N 58 (Rr.gs ⟨a, t, buf, i, ⟨⟨sm, st, sc, sr, sn⟩, L, b⟩, k, z, ⟨cst, cln, clf, csz⟩, e⟩ (.slice va vn vc) u))) (i := 9) (oi := _) (v := .agg #[.string sm, .string st, .int .i64 sc, .string sr, .int .i64 sn, .slice va vn vc, .string (Ck.bs b)]) rfl (by kernel_rfl) (by kernel_rfl) (by kernel_rfl) (fun _ _ _ h => h) (by decide) (by kernel_rfl) (by kernel_rfl) (fun l w1 hh g => hh.h1 g) hHeld (yieldsIf_load_mid (by kernel_rfl) 26 (.tmp 24) rfl N 4 rfl _ _ (fun _ hS => Blk.range hS 4 7) Tryz.underlying26 rfl (by kernel_rfl)) (fun hHeld => ?_)
      simp only [Act.put, List.getElem_toArray, List.getElem_cons_zero, List.getElem_cons_succ, List.setIfInBounds_toArray, List.set_cons_zero, List.set_cons_succ]
      refine upTo_run (i := 10) (o := _) (by kernel_rfl) rfl (fun K hK => ?_)
      go_simp
      refine hK.out _ _ (⟨fun _ => (by first|exact hA|exact hA.drew), fun _ => trivial, fun _ => trivial⟩) (fun hHeld => ?_)
      clear hK K
      refine upTo_run (i := 11) (o := _) (by kernel_rfl) rfl (fun K hK => ?_)
      rw [if_pos (by kernel_rfl)]
      refine wp_append_own _ (.tmp 20) (.tmp 26) 34 rfl (N + 1) 26 i0 _ 7 104 Tryz.underlying34 hi0 hz0 hz1 hz2 rfl (by decide) u l.length (mcells l) rfl (by first | exact hOA | exact owns_drew hOA) ⟨w1.heap.size, 0, none⟩ 1 1 [.string sm, .string st, .int .i64 sc, .string sr, .int .i64 sn, .slice va vn vc, .string (Ck.bs b)] rfl rfl (by first | exact hrn | exact fun j x hx => hrn j x hx) (by simp [Value.oneCell']) (maxLen_of (by omega)) (by omega) (by show N + 1 ≤ (w1.alloc (.cells #[.string sm, .string st, .int .i64 sc, .string sr, .int .i64 sn, .slice va vn vc, .string (Ck.bs b)] 26)).heap.size; omega) ?_
      intro u1 w2 ho2 hg2x _
      have hg2 : (w1.alloc (.cells #[.string sm, .string st, .int .i64 sc, .string sr, .int .i64 sn, .slice va vn vc, .string (Ck.bs b)] 26)).grownBy w2 u.ownBlock := ⟨hg2x.os, hg2x.tape, hg2x.output, hg2x.size, hg2x.block⟩
      clear hg2x
      obtain ⟨ua, uc, rfl⟩ := owns_form ho2
      have hgr : ∀ g, u.ownBlock = some g → ty (w1.alloc (.cells #[.string sm, .string st, .int .i64 sc, .string sr, .int .i64 sn, .slice va vn vc, .string (Ck.bs b)] 26)) g = some 26 ∧ N + 1 ≤ g := fun g e => own_block7 hOA e
      have hN2 : Blk w2 N 58 (Rr.gs ⟨a, t, buf, i, ⟨⟨sm, st, sc, sr, sn⟩, L, b⟩, k, z, ⟨cst, cln, clf, csz⟩, e⟩ (.slice va vn vc) u) := hA.keep (hg2.block N hA.lt (fun e => by have := (hgr N e.symm).2; omega))
      have hk2 : Kf (w1.alloc (.cells #[.string sm, .string st, .int .i64 sc, .string sr, .int .i64 sn, .slice va vn vc, .string (Ck.bs b)] 26)) w2 := Kf.grown (u := u) hg2 (fun g e => by rw [(hgr g e).1]; decide)
      have hM2 := MR.more (m := ⟨⟨sm, st, sc, sr, sn⟩, L, b⟩) (v := .slice va vn vc) ⟨hOA, hRA⟩ ho2 hk2 hVA
      have hB2 : Below N w w2 := hBA.grown hg2 (Nat.le_of_lt hA.lt) (fun g e => by have := (hgr g e).2; omega)
      have d18 : w2.cell? ⟨N, 18, none⟩ = some u := hN2.cell 18 _ rfl
      have dz := hN2.fz
      simp only [Act.put, List.getElem_toArray, List.getElem_cons_zero, List.getElem_cons_succ, List.setIfInBounds_toArray, List.set_cons_zero, List.set_cons_succ]
      refine hK.out _ _ ⟨fun _ => hN2, fun _ => trivial, fun _ => trivial⟩ (fun hHeld => ?_)
      clear hK K
      refine upTo_run (i := 12) (o := _) (by kernel_rfl) rfl (fun K hK => ?_)
      go_simp
      refine hK.out _ _ (⟨fun _ => (by first|exact hN2|exact hN2.drew), fun _ => trivial, fun _ => trivial⟩) (fun hHeld => ?_)
      clear hK K
      refine upTo_run (i := 13) (o := _) (by kernel_rfl) rfl (fun K hK => ?_)
      go_simp
      refine hK.out _ _ (⟨fun _ => (by first|exact hN2|exact hN2.drew), fun _ => trivial, fun _ => trivial⟩) (fun hHeld => ?_)
      clear hK K
      refine upTo_run (i := 14) (o := _) (by kernel_rfl) rfl (fun K hK => ?_)
      go_simp
      refine hK.out _ _ (⟨fun g => Bool.noConfusion (show true = false from g), fun _ => trivial, fun _ => trivial⟩) (fun hHeld => ?_)
      clear hK K
      refine upTo_done (by kernel_rfl) ?_ _
      clear hHeld
      have hN3 := hN2.set 18 (show 18 < 19 by decide) (.slice ua (l.length + 1) uc)
      have hO3 := only_set (only_refl w2 N) 18 (.slice ua (l.length + 1) uc)
      have hM3 := hM2.only hO3 (by rw [hN2.ty]; decide) (by rw [hN2.ty]; decide)
      have hB3 := hB2.setCell (p := ⟨N, 18, none⟩) (Nat.le_refl N) (.slice ua (l.length + 1) uc)
      clear hN2 hO3 hM2 hB2 hk2 hgr hg2 ho2 d18 dz hM hA hOA hrn hzA hBA hRA hVA hv1 hu1 hi0 hz0 hz1 hz2 h hB1 hlt1
      generalize World.setCell _ _ _ = W3 at hN3 hM3 hB3 ⊢
      generalize l.length + 1 = un at hN3 hM3 ⊢
      have e3 : (Rr.gs ⟨a, t, buf, i, ⟨⟨sm, st, sc, sr, sn⟩, L, b⟩, k, z, ⟨cst, cln, clf, csz⟩, e⟩ (.slice va vn vc) u).set 18 (.slice ua un uc) = Rr.gs ⟨a, t, buf, i, ⟨⟨sm, st, sc, sr, sn⟩, L, b⟩, k, z, ⟨cst, cln, clf, csz⟩, e⟩ (.slice va vn vc) (.slice ua un uc) := by kernel_rfl
      rw [e3] at hN3
      have hlt3 := hN3.lt
      have hty3 := hN3.ty
      go_wp2_with fail
      refine region_upTo 19 19 19 (fun w' => Blk w' N 58 (Rr.gs ⟨a, t, buf, i, ⟨⟨sm, st, sc, sr, sn⟩, L, b⟩, k, z, ⟨cst, cln, clf, csz⟩, e⟩ (.slice va vn vc) (.slice ua un uc))) (fun _ => True) (fun _ => True) (by kernel_rfl) ⟨hN3.drew, trivial, trivial⟩ (fun hHeld => ?_)
      refine upTo_take 17 (S := fun _ => True) (i := 0) (oi := _) (v := .pointer (some ⟨N, 0, none⟩)) rfl (by kernel_rfl) (by kernel_rfl) (by kernel_rfl) (fun _ _ _ h => h) (by decide) (by kernel_rfl) (by kernel_rfl) (fun _ _ _ _ => trivial) hHeld (Or.inl ⟨by rfl, fun wS hSw => by go_simp⟩) (fun hHeld => ?_)
      simp only [Act.put, List.getElem_toArray, List.getElem_cons_zero, List.getElem_cons_succ, List.setIfInBounds_toArray, List.set_cons_zero, List.set_cons_succ]
      refine upTo_take 2 (S := fun _ => True) (i := 1) (oi := _) (v := .pointer (some ⟨N, 0, none⟩)) rfl (by kernel_rfl) (by kernel_rfl) (by kernel_rfl) (fun _ _ _ h => h) (by decide) (by kernel_rfl) (by kernel_rfl) (fun _ _ _ _ => trivial) hHeld (Or.inl ⟨by rfl, fun wS hSw => by go_simp⟩) (fun hHeld => ?_)
      simp only [Act.put, List.getElem_toArray, List.getElem_cons_zero, List.getElem_cons_succ, List.setIfInBounds_toArray, List.set_cons_zero, List.set_cons_succ]
      refine upTo_take 3 (S := fun _ => True) (i := 2) (oi := _) (v := .pointer (some ⟨N, 0, none⟩)) rfl (by kernel_rfl) (by kernel_rfl) (by kernel_rfl) (fun _ _ _ h => h) (by decide) (by kernel_rfl) (by kernel_rfl) (fun _ _ _ _ => trivial) hHeld (Or.inl ⟨by rfl, fun wS hSw => by go_simp⟩) (fun hHeld => ?_)
      simp only [Act.put, List.getElem_toArray, List.getElem_cons_zero, List.getElem_cons_succ, List.setIfInBounds_toArray, List.set_cons_zero, List.set_cons_succ]
      refine upTo_take 4 (S := fun _ => True) (i := 3) (oi := _) (v := .pointer (some ⟨N, 0, none⟩)) rfl (by kernel_rfl) (by kernel_rfl) (by kernel_rfl) (fun _ _ _ h => h) (by decide) (by kernel_rfl) (by kernel_rfl) (fun _ _ _ _ => trivial) hHeld (Or.inl ⟨by rfl, fun wS hSw => by go_simp⟩) (fun hHeld => ?_)
      simp only [Act.put, List.getElem_toArray, List.getElem_cons_zero, List.getElem_cons_succ, List.setIfInBounds_toArray, List.set_cons_zero, List.set_cons_succ]
      refine upTo_take 5 (S := fun _ => True) (i := 4) (oi := _) (v := .pointer (some ⟨N, 0, none⟩)) rfl (by kernel_rfl) (by kernel_rfl) (by kernel_rfl) (fun _ _ _ h => h) (by decide) (by kernel_rfl) (by kernel_rfl) (fun _ _ _ _ => trivial) hHeld (Or.inl ⟨by rfl, fun wS hSw => by go_simp⟩) (fun hHeld => ?_)
      simp only [Act.put, List.getElem_toArray, List.getElem_cons_zero, List.getElem_cons_succ, List.setIfInBounds_toArray, List.set_cons_zero, List.set_cons_succ]
      refine upTo_take 19 (S := (fun w' => Blk w' N 58 (Rr.gs ⟨a, t, buf, i, ⟨⟨sm, st, sc, sr, sn⟩, L, b⟩, k, z, ⟨cst, cln, clf, csz⟩, e⟩ (.slice va vn vc) (.slice ua un uc)))) (i := 5) (oi := _) (v := .bool a) rfl (by kernel_rfl) (by kernel_rfl) (by kernel_rfl) (fun _ _ _ h => h) (by decide) (by kernel_rfl) (by kernel_rfl) (fun l w1 hh g => hh.h1 g) hHeld (Or.inl ⟨by rfl, fun wS hSw => by have l0 : World.cell? wS ⟨N, 0, none⟩ = some (.bool a) := hSw.cell 0 _ rfl; go_simp⟩) (fun hHeld => ?_)
      simp only [Act.put, List.getElem_toArray, List.getElem_cons_zero, List.getElem_cons_succ, List.setIfInBounds_toArray, List.set_cons_zero, List.set_cons_succ]
      refine upTo_take 7 (S := fun _ => True) (i := 6) (oi := _) (v := .pointer (some ⟨N, 0, none⟩)) rfl (by kernel_rfl) (by kernel_rfl) (by kernel_rfl) (fun _ _ _ h => h) (by decide) (by kernel_rfl) (by kernel_rfl) (fun _ _ _ _ => trivial) hHeld (Or.inl ⟨by rfl, fun wS hSw => by go_simp⟩) (fun hHeld => ?_)
      simp only [Act.put, List.getElem_toArray, List.getElem_cons_zero, List.getElem_cons_succ, List.setIfInBounds_toArray, List.set_cons_zero, List.set_cons_succ]
      refine upTo_take 8 (S := fun _ => True) (i := 7) (oi := _) (v := .pointer (some ⟨N, 0, none⟩)) rfl (by kernel_rfl) (by kernel_rfl) (by kernel_rfl) (fun _ _ _ h => h) (by decide) (by kernel_rfl) (by kernel_rfl) (fun _ _ _ _ => trivial) hHeld (Or.inl ⟨by rfl, fun wS hSw => by go_simp⟩) (fun hHeld => ?_)
      simp only [Act.put, List.getElem_toArray, List.getElem_cons_zero, List.getElem_cons_succ, List.setIfInBounds_toArray, List.set_cons_zero, List.set_cons_succ]
      refine upTo_take 9 (S := fun _ => True) (i := 8) (oi := _) (v := .pointer (some ⟨N, 0, none⟩)) rfl (by kernel_rfl) (by kernel_rfl) (by kernel_rfl) (fun _ _ _ h => h) (by decide) (by kernel_rfl) (by kernel_rfl) (fun _ _ _ _ => trivial) hHeld (Or.inl ⟨by rfl, fun wS hSw => by go_simp⟩) (fun hHeld => ?_)
      simp only [Act.put, List.getElem_toArray, List.getElem_cons_zero, List.getElem_cons_succ, List.setIfInBounds_toArray, List.set_cons_zero, List.set_cons_succ]
      refine upTo_take 10 (S := fun _ => True) (i := 9) (oi := _) (v := .pointer (some ⟨N, 1, none⟩)) rfl (by kernel_rfl) (by kernel_rfl) (by kernel_rfl) (fun _ _ _ h => h) (by decide) (by kernel_rfl) (by kernel_rfl) (fun _ _ _ _ => trivial) hHeld (Or.inl ⟨by rfl, fun wS hSw => by go_simp⟩) (fun hHeld => ?_)
      simp only [Act.put, List.getElem_toArray, List.getElem_cons_zero, List.getElem_cons_succ, List.setIfInBounds_toArray, List.set_cons_zero, List.set_cons_succ]
      refine upTo_take 19 (S := (fun w' => Blk w' N 58 (Rr.gs ⟨a, t, buf, i, ⟨⟨sm, st, sc, sr, sn⟩, L, b⟩, k, z, ⟨cst, cln, clf, csz⟩, e⟩ (.slice va vn vc) (.slice ua un uc)))) (i := 10) (oi := _) (v := .string t) rfl (by kernel_rfl) (by kernel_rfl) (by kernel_rfl) (fun _ _ _ h => h) (by decide) (by kernel_rfl) (by kernel_rfl) (fun l w1 hh g => hh.h1 g) hHeld (Or.inl ⟨by rfl, fun wS hSw => by have l1 : World.cell? wS ⟨N, 1, none⟩ = some (.string t) := hSw.cell 1 _ rfl; go_simp⟩) (fun hHeld => ?_)
      simp only [Act.put, List.getElem_toArray, List.getElem_cons_zero, List.getElem_cons_succ, List.setIfInBounds_toArray, List.set_cons_zero, List.set_cons_succ]
      refine upTo_take 12 (S := fun _ => True) (i := 11) (oi := _) (v := .pointer (some ⟨N, 0, none⟩)) rfl (by kernel_rfl) (by kernel_rfl) (by kernel_rfl) (fun _ _ _ h => h) (by decide) (by kernel_rfl) (by kernel_rfl) (fun _ _ _ _ => trivial) hHeld (Or.inl ⟨by rfl, fun wS hSw => by go_simp⟩) (fun hHeld => ?_)
      simp only [Act.put, List.getElem_toArray, List.getElem_cons_zero, List.getElem_cons_succ, List.setIfInBounds_toArray, List.set_cons_zero, List.set_cons_succ]
      refine upTo_take 13 (S := fun _ => True) (i := 12) (oi := _) (v := .pointer (some ⟨N, 0, none⟩)) rfl (by kernel_rfl) (by kernel_rfl) (by kernel_rfl) (fun _ _ _ h => h) (by decide) (by kernel_rfl) (by kernel_rfl) (fun _ _ _ _ => trivial) hHeld (Or.inl ⟨by rfl, fun wS hSw => by go_simp⟩) (fun hHeld => ?_)
      simp only [Act.put, List.getElem_toArray, List.getElem_cons_zero, List.getElem_cons_succ, List.setIfInBounds_toArray, List.set_cons_zero, List.set_cons_succ]
      refine upTo_take 14 (S := fun _ => True) (i := 13) (oi := _) (v := .pointer (some ⟨N, 0, none⟩)) rfl (by kernel_rfl) (by kernel_rfl) (by kernel_rfl) (fun _ _ _ h => h) (by decide) (by kernel_rfl) (by kernel_rfl) (fun _ _ _ _ => trivial) hHeld (Or.inl ⟨by rfl, fun wS hSw => by go_simp⟩) (fun hHeld => ?_)
      simp only [Act.put, List.getElem_toArray, List.getElem_cons_zero, List.getElem_cons_succ, List.setIfInBounds_toArray, List.set_cons_zero, List.set_cons_succ]
      refine upTo_take 15 (S := fun _ => True) (i := 14) (oi := _) (v := .pointer (some ⟨N, 2, none⟩)) rfl (by kernel_rfl) (by kernel_rfl) (by kernel_rfl) (fun _ _ _ h => h) (by decide) (by kernel_rfl) (by kernel_rfl) (fun _ _ _ _ => trivial) hHeld (Or.inl ⟨by rfl, fun wS hSw => by go_simp⟩) (fun hHeld => ?_)
      simp only [Act.put, List.getElem_toArray, List.getElem_cons_zero, List.getElem_cons_succ, List.setIfInBounds_toArray, List.set_cons_zero, List.set_cons_succ]
      refine upTo_take 19 (S := (fun w' => Blk w' N 58 (Rr.gs ⟨a, t, buf, i, ⟨⟨sm, st, sc, sr, sn⟩, L, b⟩, k, z, ⟨cst, cln, clf, csz⟩, e⟩ (.slice va vn vc) (.slice ua un uc)))) (i := 15) (oi := _) (v := .string (Ck.bs buf)) rfl (by kernel_rfl) (by kernel_rfl) (by kernel_rfl) (fun _ _ _ h => h) (by decide) (by kernel_rfl) (by kernel_rfl) (fun l w1 hh g => hh.h1 g) hHeld (Or.inl ⟨by rfl, fun wS hSw => by have l2 : World.cell? wS ⟨N, 2, none⟩ = some (.string (Ck.bs buf)) := hSw.cell 2 _ rfl; go_simp⟩) (fun hHeld => ?_)
      simp only [Act.put, List.getElem_toArray, List.getElem_cons_zero, List.getElem_cons_succ, List.setIfInBounds_toArray, List.set_cons_zero, List.set_cons_succ]
      refine upTo_take 17 (S := fun _ => True) (i := 16) (oi := _) (v := .agg #[.bool a, .string t, .string (Ck.bs buf), .bool false, .string ⟨#[]⟩, .string ⟨#[]⟩, .int .i64 0, .string ⟨#[]⟩, .int .i64 0, .slice none 0 0, .string ⟨#[]⟩, .int .i64 0, .int .i64 0, .int .i64 0, .string ⟨#[]⟩, .int .i64 0, .int .i64 0, .int .i64 0]) rfl (by kernel_rfl) (by kernel_rfl) (by kernel_rfl) (fun _ _ _ h => h) (by decide) (by kernel_rfl) (by kernel_rfl) (fun _ _ _ _ => trivial) hHeld (Or.inl ⟨by rfl, fun wS hSw => by go_simp⟩) (fun hHeld => ?_)
      simp only [Act.put, List.getElem_toArray, List.getElem_cons_zero, List.getElem_cons_succ, List.setIfInBounds_toArray, List.set_cons_zero, List.set_cons_succ]
      refine upTo_run (i := 17) (o := _) (by kernel_rfl) rfl (fun K hK => ?_)
      go_simp
      refine hK.out _ _ (⟨fun _ => (by first|exact hN3|exact hN3.drew), fun _ => trivial, fun _ => trivial⟩) (fun hHeld => ?_)
      clear hK K
      refine upTo_run (i := 18) (o := _) (by kernel_rfl) rfl (fun K hK => ?_)
      go_simp
      refine hK.out _ _ (⟨fun _ => (by first|exact hN3|exact hN3.drew), fun _ => trivial, fun _ => trivial⟩) (fun hHeld => ?_)
      clear hK K
      refine upTo_run (i := 19) (o := _) (by kernel_rfl) rfl (fun K hK => ?_)
      rw [if_pos (by kernel_rfl)]
      refine wp_store_mid 33 (.tmp 48) (.tmp 46) rfl _ _ _ rfl rfl ((hN3.drew.there 0 18 (show 0 + 18 ≤ 19 by decide))) (by kernel_rfl) (by simp [Value.oneCell']) ?_
      simp only [Act.put, List.getElem_toArray, List.getElem_cons_zero, List.getElem_cons_succ, List.setIfInBounds_toArray, List.set_cons_zero, List.set_cons_succ]
      refine hK.out _ _ (⟨fun g => Bool.noConfusion (show true = false from g), fun _ => trivial, fun _ => trivial⟩) (fun hHeld => ?_)
      clear hK K
      refine upTo_done (by kernel_rfl) ?_ _
      have hN4 := hN3.drew.sets [.bool a, .string t, .string (Ck.bs buf), .bool false, .string ⟨#[]⟩, .string ⟨#[]⟩, .int .i64 0, .string ⟨#[]⟩, .int .i64 0, .slice none 0 0, .string ⟨#[]⟩, .int .i64 0, .int .i64 0, .int .i64 0, .string ⟨#[]⟩, .int .i64 0, .int .i64 0, .int .i64 0] 0 (show 0 + 18 ≤ 19 by decide)
      have hO4 := only_sets [.bool a, .string t, .string (Ck.bs buf), .bool false, .string ⟨#[]⟩, .string ⟨#[]⟩, .int .i64 0, .string ⟨#[]⟩, .int .i64 0, .slice none 0 0, .string ⟨#[]⟩, .int .i64 0, .int .i64 0, .int .i64 0, .string ⟨#[]⟩, .int .i64 0, .int .i64 0, .int .i64 0] 0 (only_below (only_refl W3 N) ((Below.refl _ _).drew))
      have e4 : sets (Rr.gs ⟨a, t, buf, i, ⟨⟨sm, st, sc, sr, sn⟩, L, b⟩, k, z, ⟨cst, cln, clf, csz⟩, e⟩ (.slice va vn vc) (.slice ua un uc)) 0 [.bool a, .string t, .string (Ck.bs buf), .bool false, .string ⟨#[]⟩, .string ⟨#[]⟩, .int .i64 0, .string ⟨#[]⟩, .int .i64 0, .slice none 0 0, .string ⟨#[]⟩, .int .i64 0, .int .i64 0, .int .i64 0, .string ⟨#[]⟩, .int .i64 0, .int .i64 0, .int .i64 0] = (fresh a t buf).gs (.slice none 0 0) (.slice ua un uc) := by kernel_rfl
      rw [e4] at hN4
      have hM4 := hM3.only hO4 (by rw [hty3]; decide) (by rw [hty3]; decide)
      have hB4 := hB3.trans (below_only hO4 (Nat.le_refl N) (Nat.le_of_lt hlt3))
      generalize World.setCells _ _ _ _ = W4 at hN4 hM4 hB4 ⊢
      have HX := hide (And.intro hN4 (And.intro hM4 hB4))
      clear hN4 hM4 hB4 hN3 hM3 hB3 e3 e4 hHeld hO4
      go_wp2_with fail
      refine bodyPost_ret (v := .bool true) (by simp [results, Tryz.results45, go_sem]) rfl ?_
      exact ⟨rfl, ⟨.slice none 0 0, .slice ua un uc, l ++ [(⟨⟨sm, st, sc, sr, sn⟩, L, b⟩, .slice va vn vc)], HX.out.1, FR.nil _, HX.out.2.1, by simp⟩, HX.out.2.2⟩
  · rw [if_pos hE]
    have hEb : (E != 0) = true := by simpa using hE
    go_enter Tryz.func45, Tryz.ntmps45
    go_wp2_with fail
    refine hc.mono ?_
    rintro en w1 ⟨rfl, hb1, ho1⟩
    go_wp2_with fail
    refine (stop_any q v u N E w1 hb1).mono ?_
    rintro en w2 ⟨rfl, hb2, ho2⟩
    have ho := only_trans ho1 ho2
    go_wp2_with fail
    go_ret
    exact ⟨rfl, ⟨_, u, l, hb2, FR.nil _, hu.only ho (by rw [hty]; decide) (by rw [hty]; decide), by simp⟩, below_only ho (Nat.le_refl _) (Nat.le_of_lt hlt)⟩

end Go.Proofs.YtmpijlaidnhpnaaGreat

namespace Go.Proofs.YtmpijlaidnhpnaaGreat
set_option linter.unusedVariables false
set_option linter.unusedSimpArgs false
set_option maxRecDepth 100000
open Go.RowKit

theorem length_any (r : Rr) (v : Value) (m : Ms) (vm : Value) (w : World) (hs : Short m.s) (hr : Row w vm m.L) (hl : m.L.length ≤ 50) (hS : Sh m.L) :
    Calls Tryz.prog 40 #[r.v v, m.v vm] w fun en w' => en = .returned (anV (lgF r.a r.t m.s m.L)) ∧ Below w.heap.size w w' := by
  have hB : Below w.heap.size w (((w.alloc (.cells #[.bool r.a, .string r.t, .string (Ck.bs r.buf), .bool r.i, .string r.m.s.m, .string r.m.s.t, .int .i64 r.m.s.c, .string r.m.s.r, .int .i64 r.m.s.n, v, .string (Ck.bs r.m.b), .int .i64 r.k, .int .i64 r.z, .int .i64 r.c.st, .string r.c.line, .int .i64 r.c.left, .int .i64 r.c.size, .int .i64 r.e] 33)).alloc (.cells #[.string m.s.m, .string m.s.t, .int .i64 m.s.c, .string m.s.r, .int .i64 m.s.n, vm, .string (Ck.bs m.b)] 26)).alloc (.cells #[.int .i64 0, .int .i64 0] 28)) := (((Below.refl _ _).alloc (Nat.le_refl _) _).alloc (by simp) _).alloc (by simp; omega) _
  have hR := hide (hr.below hB)
  have hX : Blk (((w.alloc (.cells #[.bool r.a, .string r.t, .string (Ck.bs r.buf), .bool r.i, .string r.m.s.m, .string r.m.s.t, .int .i64 r.m.s.c, .string r.m.s.r, .int .i64 r.m.s.n, v, .string (Ck.bs r.m.b), .int .i64 r.k, .int .i64 r.z, .int .i64 r.c.st, .string r.c.line, .int .i64 r.c.left, .int .i64 r.c.size, .int .i64 r.e] 33)).alloc (.cells #[.string m.s.m, .string m.s.t, .int .i64 m.s.c, .string m.s.r, .int .i64 m.s.n, vm, .string (Ck.bs m.b)] 26)).alloc (.cells #[.int .i64 0, .int .i64 0] 28)) w.heap.size 33 (r.cs v) := ((Blk.new w 33 (r.cs v)).alloc _).alloc _
  have hY : Blk (((w.alloc (.cells #[.bool r.a, .string r.t, .string (Ck.bs r.buf), .bool r.i, .string r.m.s.m, .string r.m.s.t, .int .i64 r.m.s.c, .string r.m.s.r, .int .i64 r.m.s.n, v, .string (Ck.bs r.m.b), .int .i64 r.k, .int .i64 r.z, .int .i64 r.c.st, .string r.c.line, .int .i64 r.c.left, .int .i64 r.c.size, .int .i64 r.e] 33)).alloc (.cells #[.string m.s.m, .string m.s.t, .int .i64 m.s.c, .string m.s.r, .int .i64 m.s.n, vm, .string (Ck.bs m.b)] 26)).alloc (.cells #[.int .i64 0, .int .i64 0] 28)) (w.heap.size + 1) 26 (m.cs vm) := by
    have := (Blk.new (w.alloc (.cells #[.bool r.a, .string r.t, .string (Ck.bs r.buf), .bool r.i, .string r.m.s.m, .string r.m.s.t, .int .i64 r.m.s.c, .string r.m.s.r, .int .i64 r.m.s.n, v, .string (Ck.bs r.m.b), .int .i64 r.k, .int .i64 r.z, .int .i64 r.c.st, .string r.c.line, .int .i64 r.c.left, .int .i64 r.c.size, .int .i64 r.e] 33)) 26 (m.cs vm)).alloc (.cells #[.int .i64 0, .int .i64 0] 28)
    rwa [show ((w.alloc (.cells #[.bool r.a, .string r.t, .string (Ck.bs r.buf), .bool r.i, .string r.m.s.m, .string r.m.s.t, .int .i64 r.m.s.c, .string r.m.s.r, .int .i64 r.m.s.n, v, .string (Ck.bs r.m.b), .int .i64 r.k, .int .i64 r.z, .int .i64 r.c.st, .string r.c.line, .int .i64 r.c.left, .int .i64 r.c.size, .int .i64 r.e] 33))).heap.size = w.heap.size + 1 by simp] at this
  have hT : Tw (((w.alloc (.cells #[.bool r.a, .string r.t, .string (Ck.bs r.buf), .bool r.i, .string r.m.s.m, .string r.m.s.t, .int .i64 r.m.s.c, .string r.m.s.r, .int .i64 r.m.s.n, v, .string (Ck.bs r.m.b), .int .i64 r.k, .int .i64 r.z, .int .i64 r.c.st, .string r.c.line, .int .i64 r.c.left, .int .i64 r.c.size, .int .i64 r.e] 33)).alloc (.cells #[.string m.s.m, .string m.s.t, .int .i64 m.s.c, .string m.s.r, .int .i64 m.s.n, vm, .string (Ck.bs m.b)] 26)).alloc (.cells #[.int .i64 0, .int .i64 0] 28)) (w.heap.size + 1 + 1) 0 0 := by
    have := Tw.new ((w.alloc (.cells #[.bool r.a, .string r.t, .string (Ck.bs r.buf), .bool r.i, .string r.m.s.m, .string r.m.s.t, .int .i64 r.m.s.c, .string r.m.s.r, .int .i64 r.m.s.n, v, .string (Ck.bs r.m.b), .int .i64 r.k, .int .i64 r.z, .int .i64 r.c.st, .string r.c.line, .int .i64 r.c.left, .int .i64 r.c.size, .int .i64 r.e] 33)).alloc (.cells #[.string m.s.m, .string m.s.t, .int .i64 m.s.c, .string m.s.r, .int .i64 m.s.n, vm, .string (Ck.bs m.b)] 26)) 0 0
    rwa [show (((w.alloc (.cells #[.bool r.a, .string r.t, .string (Ck.bs r.buf), .bool r.i, .string r.m.s.m, .string r.m.s.t, .int .i64 r.m.s.c, .string r.m.s.r, .int .i64 r.m.s.n, v, .string (Ck.bs r.m.b), .int .i64 r.k, .int .i64 r.z, .int .i64 r.c.st, .string r.c.line, .int .i64 r.c.left, .int .i64 r.c.size, .int .i64 r.e] 33)).alloc (.cells #[.string m.s.m, .string m.s.t, .int .i64 m.s.c, .string m.s.r, .int .i64 m.s.n, vm, .string (Ck.bs m.b)] 26))).heap.size = w.heap.size + 1 + 1 by simp] at this
  obtain ⟨aa, ca, rfl⟩ := hr.slice
  have c0 : World.cell? (((w.alloc (.cells #[.bool r.a, .string r.t, .string (Ck.bs r.buf), .bool r.i, .string r.m.s.m, .string r.m.s.t, .int .i64 r.m.s.c, .string r.m.s.r, .int .i64 r.m.s.n, v, .string (Ck.bs r.m.b), .int .i64 r.k, .int .i64 r.z, .int .i64 r.c.st, .string r.c.line, .int .i64 r.c.left, .int .i64 r.c.size, .int .i64 r.e] 33)).alloc (.cells #[.string m.s.m, .string m.s.t, .int .i64 m.s.c, .string m.s.r, .int .i64 m.s.n, .slice aa m.L.length ca, .string (Ck.bs m.b)] 26)).alloc (.cells #[.int .i64 0, .int .i64 0] 28)) ⟨w.heap.size, 0, none⟩ = some (.bool r.a) := hX.cell 0 _ rfl
  have c1 : World.cell? (((w.alloc (.cells #[.bool r.a, .string r.t, .string (Ck.bs r.buf), .bool r.i, .string r.m.s.m, .string r.m.s.t, .int .i64 r.m.s.c, .string r.m.s.r, .int .i64 r.m.s.n, v, .string (Ck.bs r.m.b), .int .i64 r.k, .int .i64 r.z, .int .i64 r.c.st, .string r.c.line, .int .i64 r.c.left, .int .i64 r.c.size, .int .i64 r.e] 33)).alloc (.cells #[.string m.s.m, .string m.s.t, .int .i64 m.s.c, .string m.s.r, .int .i64 m.s.n, .slice aa m.L.length ca, .string (Ck.bs m.b)] 26)).alloc (.cells #[.int .i64 0, .int .i64 0] 28)) ⟨w.heap.size, 1, none⟩ = some (.string r.t) := hX.cell 1 _ rfl
  have d0 : World.cell? (((w.alloc (.cells #[.bool r.a, .string r.t, .string (Ck.bs r.buf), .bool r.i, .string r.m.s.m, .string r.m.s.t, .int .i64 r.m.s.c, .string r.m.s.r, .int .i64 r.m.s.n, v, .string (Ck.bs r.m.b), .int .i64 r.k, .int .i64 r.z, .int .i64 r.c.st, .string r.c.line, .int .i64 r.c.left, .int .i64 r.c.size, .int .i64 r.e] 33)).alloc (.cells #[.string m.s.m, .string m.s.t, .int .i64 m.s.c, .string m.s.r, .int .i64 m.s.n, .slice aa m.L.length ca, .string (Ck.bs m.b)] 26)).alloc (.cells #[.int .i64 0, .int .i64 0] 28)) ⟨w.heap.size + 1, 0, none⟩ = some (.string m.s.m) := hY.cell 0 _ rfl
  have d1 : World.cell? (((w.alloc (.cells #[.bool r.a, .string r.t, .string (Ck.bs r.buf), .bool r.i, .string r.m.s.m, .string r.m.s.t, .int .i64 r.m.s.c, .string r.m.s.r, .int .i64 r.m.s.n, v, .string (Ck.bs r.m.b), .int .i64 r.k, .int .i64 r.z, .int .i64 r.c.st, .string r.c.line, .int .i64 r.c.left, .int .i64 r.c.size, .int .i64 r.e] 33)).alloc (.cells #[.string m.s.m, .string m.s.t, .int .i64 m.s.c, .string m.s.r, .int .i64 m.s.n, .slice aa m.L.length ca, .string (Ck.bs m.b)] 26)).alloc (.cells #[.int .i64 0, .int .i64 0] 28)) ⟨w.heap.size + 1, 1, none⟩ = some (.string m.s.t) := hY.cell 1 _ rfl
  have d2 : World.cell? (((w.alloc (.cells #[.bool r.a, .string r.t, .string (Ck.bs r.buf), .bool r.i, .string r.m.s.m, .string r.m.s.t, .int .i64 r.m.s.c, .string r.m.s.r, .int .i64 r.m.s.n, v, .string (Ck.bs r.m.b), .int .i64 r.k, .int .i64 r.z, .int .i64 r.c.st, .string r.c.line, .int .i64 r.c.left, .int .i64 r.c.size, .int .i64 r.e] 33)).alloc (.cells #[.string m.s.m, .string m.s.t, .int .i64 m.s.c, .string m.s.r, .int .i64 m.s.n, .slice aa m.L.length ca, .string (Ck.bs m.b)] 26)).alloc (.cells #[.int .i64 0, .int .i64 0] 28)) ⟨w.heap.size + 1, 2, none⟩ = some (.int .i64 m.s.c) := hY.cell 2 _ rfl
  have d3 : World.cell? (((w.alloc (.cells #[.bool r.a, .string r.t, .string (Ck.bs r.buf), .bool r.i, .string r.m.s.m, .string r.m.s.t, .int .i64 r.m.s.c, .string r.m.s.r, .int .i64 r.m.s.n, v, .string (Ck.bs r.m.b), .int .i64 r.k, .int .i64 r.z, .int .i64 r.c.st, .string r.c.line, .int .i64 r.c.left, .int .i64 r.c.size, .int .i64 r.e] 33)).alloc (.cells #[.string m.s.m, .string m.s.t, .int .i64 m.s.c, .string m.s.r, .int .i64 m.s.n, .slice aa m.L.length ca, .string (Ck.bs m.b)] 26)).alloc (.cells #[.int .i64 0, .int .i64 0] 28)) ⟨w.heap.size + 1, 3, none⟩ = some (.string m.s.r) := hY.cell 3 _ rfl
  have d4 : World.cell? (((w.alloc (.cells #[.bool r.a, .string r.t, .string (Ck.bs r.buf), .bool r.i, .string r.m.s.m, .string r.m.s.t, .int .i64 r.m.s.c, .string r.m.s.r, .int .i64 r.m.s.n, v, .string (Ck.bs r.m.b), .int .i64 r.k, .int .i64 r.z, .int .i64 r.c.st, .string r.c.line, .int .i64 r.c.left, .int .i64 r.c.size, .int .i64 r.e] 33)).alloc (.cells #[.string m.s.m, .string m.s.t, .int .i64 m.s.c, .string m.s.r, .int .i64 m.s.n, .slice aa m.L.length ca, .string (Ck.bs m.b)] 26)).alloc (.cells #[.int .i64 0, .int .i64 0] 28)) ⟨w.heap.size + 1, 4, none⟩ = some (.int .i64 m.s.n) := hY.cell 4 _ rfl
  have d5 : World.cell? (((w.alloc (.cells #[.bool r.a, .string r.t, .string (Ck.bs r.buf), .bool r.i, .string r.m.s.m, .string r.m.s.t, .int .i64 r.m.s.c, .string r.m.s.r, .int .i64 r.m.s.n, v, .string (Ck.bs r.m.b), .int .i64 r.k, .int .i64 r.z, .int .i64 r.c.st, .string r.c.line, .int .i64 r.c.left, .int .i64 r.c.size, .int .i64 r.e] 33)).alloc (.cells #[.string m.s.m, .string m.s.t, .int .i64 m.s.c, .string m.s.r, .int .i64 m.s.n, .slice aa m.L.length ca, .string (Ck.bs m.b)] 26)).alloc (.cells #[.int .i64 0, .int .i64 0] 28)) ⟨w.heap.size + 1, 5, none⟩ = some (.slice aa m.L.length ca) := hY.cell 5 _ rfl
  clear hX hY hr
  unfold Rr.v Ms.v
  cases ha : r.a
  · rw [ha] at c0 hB hR hT c1 d0 d1 d2 d3 d4 d5
    have hF : lgF false r.t m.s m.L = ansF m.s m.L r.t := by unfold lgF; rw [if_neg (by decide)]
    rw [hF]
    obtain ⟨⟨A1, A2, A3⟩, hA⟩ : ∃ q, ansF m.s m.L r.t = q := ⟨_, rfl⟩
    have hc := fun W hr => answer_any m.s m.L r.t (.slice aa m.L.length ca) W hs hr hl hS
    rw [hA] at hc ⊢
    unfold anV St.v at hc
    unfold anV
    simp only at hc ⊢
    clear hF hA
    go_enter Tryz.func40, Tryz.ntmps40
    go_wp2_with fail
    generalize World.alloc (World.alloc (World.alloc _ _) _) _ = W3 at *
    go_wp2_with fail
    refine (hc _ hR.out).mono ?_
    rintro en w1 ⟨rfl, hb1⟩
    have hT1 := hT.below hb1
    have hB1 := hB.trans (hb1.mono hB.size)
    obtain ⟨t0, t1, -, tf⟩ := id hT1
    go_wp2_with fail
    refine bodyPost_ret (v := .tuple #[.agg #[.int .i64 A1, .int .i64 A2], .int .i64 A3]) (by simp [results, Tryz.results40, go_sem, t0, t1, tf]) rfl ⟨rfl, ?_⟩
    exact put2_below hB1 (by omega) A1 A2
  · rw [ha] at c0 hB hR hT c1 d0 d1 d2 d3 d4 d5
    have hF : lgF true r.t m.s m.L = reqF m.s m.L := by unfold lgF; rw [if_pos rfl]
    rw [hF]
    obtain ⟨⟨A1, A2, A3⟩, hA⟩ : ∃ q, reqF m.s m.L = q := ⟨_, rfl⟩
    have hc := fun W hr => request_any m.s m.L (.slice aa m.L.length ca) W hs hr hl hS
    rw [hA] at hc ⊢
    unfold anV St.v at hc
    unfold anV
    simp only at hc ⊢
    clear hF hA
    go_enter Tryz.func40, Tryz.ntmps40
    go_wp2_with fail
    generalize World.alloc (World.alloc (World.alloc _ _) _) _ = W3 at *
    go_wp2_with fail
    refine (hc _ hR.out).mono ?_
    rintro en w1 ⟨rfl, hb1⟩
    have hT1 := hT.below hb1
    have hB1 := hB.trans (hb1.mono hB.size)
    obtain ⟨t0, t1, -, tf⟩ := id hT1
    go_wp2_with fail
    refine bodyPost_ret (v := .tuple #[.agg #[.int .i64 A1, .int .i64 A2], .int .i64 A3]) (by simp [results, Tryz.results40, go_sem, t0, t1, tf]) rfl ⟨rfl, ?_⟩
    exact put2_below hB1 (by omega) A1 A2

end Go.Proofs.YtmpijlaidnhpnaaGreat
