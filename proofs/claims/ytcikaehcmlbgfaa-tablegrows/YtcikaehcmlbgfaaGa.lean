/- The walk of TableGrows. -/
import Derived.Test.YtcikaehcmlbgfaaWw
namespace Go.Proofs.Ytcikaehcmlbgfaa
set_option linter.unusedVariables false
set_option linter.unusedSimpArgs false
open Go.RowKit

/-- One row is put behind another one, which the call has made: where what comes of it lies. -/
theorem wpList_append_RowAt {w : World} {ops : Array Oper} {rest : List Oper} {o : Oper} {a : Act} {Q : Exit → Act → World → Prop} (hgd : o.guard = none) (s x : Operand)
    (ho : o.op = .call { callee := .builtin .append, args := #[s, x], argTypes := #[22, 22] }) (base : Nat) (v vx : Value) (D L : List Fd) (hs : a.eval s = v) (hx : a.eval x = vx)
    (hown : Own w base v D) (hrow : Row w vx L) (h0 : 0 < L.length) (hl : D.length + L.length ≤ 1000000) (hbase : base ≤ w.heap.size)
    (h : ∀ v' w', Own w' base v' (D ++ L) → w.grownBy w' v.ownBlock → (v'.ownBlock = v.ownBlock ∨ v'.ownBlock = some w.heap.size) → wpList Try.prog ops Q rest (a.put o.dst v') w') :
    wpList Try.prog ops Q (o :: rest) a w := by
  obtain ⟨i0, hi0, hz0, hz1, hz2⟩ := info_parts Try.info25
  obtain ⟨b, cap, rfl, hcap, hR⟩ := hrow
  obtain ⟨g, off, rfl, -, -⟩ := hR 0 h0
  refine wpList_append_own_at _ hgd s x 22 ho base 25 i0 _ 2 32 Try.underlying22 hi0 hz0 hz1 hz2 rfl (by decide) v D.length (fcells D) hs hown ⟨g, off, none⟩ L.length cap (fcells L) hx (fcells_length L) (row_cells (cap := cap) hR) (fcells_one L) (maxLen_of (by omega)) (by omega) hbase ?_
  intro v' w' h1 h2 _ h4
  refine h v' w' ?_ h2 h4
  unfold Own
  rw [List.length_append, fcells_append]
  exact h1

theorem right_snoc {N : List Fd} {f : Fd} (h : rightF N = true) (hl : N.length ≠ 40) (hf : mayF f = true) : rightF (N ++ [f]) = true := by
  unfold rightF at *
  simp only [Bool.and_eq_true, decide_eq_true_eq, List.all_eq_true] at *
  refine ⟨by rw [List.length_append]; simp; omega, fun x hx => ?_⟩
  rcases List.mem_append.1 hx with hx | hx
  · exact h.2 x hx
  · obtain rfl : x = f := by simpa using hx
    exact hf
theorem right_le {N : List Fd} (h : rightF N = true) : N.length ≤ 40 := by
  unfold rightF at h
  simp only [Bool.and_eq_true, decide_eq_true_eq] at h
  exact h.1

/-- The row that is read, and the one that is put together beside it, lie apart. -/
structure Two (W : World) (a b : Value) (N : List Fd) (w : World) : Prop where
  below : Below W.heap.size W w
  row : Row w a N
  own : Own w W.heap.size b N
  apart : ∀ g, a.ownBlock = some g → b.ownBlock = some g → False
theorem Two.on {W w w' : World} {a b : Value} {N : List Fd} (h : Two W a b N w) (hb : Below w.heap.size w w') : Two W a b N w' :=
  ⟨h.below.trans (hb.mono h.below.size), h.row.below hb, h.own.below hb, h.apart⟩
theorem short_ok {M : List Fd} (h : ∀ f ∈ M, f.1.size ≤ 60 ∧ f.2.size ≤ 1010) : Sh M := fun f hf => by have := h f hf; omega

/-- The next two rows. -/
theorem Two.next {W w1 w2 w3 w4 : World} {a b x b' : Value} {N : List Fd} {f : Fd} {M : List Fd} (h : Two W a b N w1) (h12 : Below w1.heap.size w1 w2) (hx : Own w2 w1.heap.size x M) (h23 : Below w2.heap.size w2 w3)
    (ho : Own w4 W.heap.size b' M) (hg : w3.grownBy w4 b.ownBlock) (hat : b'.ownBlock = b.ownBlock ∨ b'.ownBlock = some w3.heap.size) : Two W x b' M w4 := by
  have h3 := (h.on h12).on h23
  have hx3 := hx.below h23
  have hbl : ∀ g, b.ownBlock = some g → g < w1.heap.size := fun g hg => (World.ownsRow.lt h.own g hg).2
  have hxl : ∀ g, x.ownBlock = some g → w1.heap.size ≤ g ∧ g < w3.heap.size := fun g hg => World.ownsRow.lt hx3 g hg
  refine ⟨h3.below.grown hg h3.below.size (own_block h3.own), hx3.row.grown hg (fun g off cap he e => ?_), ho, fun g h1 h2 => ?_⟩
  · have h1 := hbl g e
    have h2 := (hxl g (by rw [he]; rfl)).1
    omega
  · have h3 := hxl g h1
    rcases hat with hat | hat
    · rw [hat] at h2
      have := hbl g h2
      omega
    · rw [hat] at h2
      cases h2
      omega

set_option maxHeartbeats 8000000 in
theorem grows_walk (L : List Fd) (a : Option Addr) (cap : Nat) (w : World) (hr : Row w (.slice a L.length cap) L) (hcm : cap ≤ maxLen) (hs : ∀ f ∈ L, f.1.size ≤ maxLen ∧ f.2.size ≤ maxLen) :
    Calls Try.prog 5 #[.slice a L.length cap] w fun e w' => e = .returned (.bool true) ∧ Below w.heap.size w w' := by
  have HR := hide hr
  have HS := hide hs
  clear hr hs
  go_enter Try.func5, Try.ntmps5
  go_wp2_with fail
  refine (few_any L a cap w HR.out hcm HS.out).mono ?_
  rintro e w1 ⟨r, M, rfl, hrow, hlen, hsh, hb1⟩
  clear HR HS
  obtain ⟨ar, cr, rfl⟩ := hrow.slice
  have HROW := hide hrow
  have HSH := hide hsh
  clear hrow hsh
  go_wp2_with fail
  go_loopw [3, 4, 6, 7, 8, 9, 14] (fun x y _ _ _ _ i wr => ∃ (k : Nat) (N : List Fd), k ≤ M.length ∧ i = .int .i64 k ∧ Two w1 x y N wr ∧ Hid (rightF N = true) ∧ Hid (∀ f ∈ N, f ∈ M)) (fun _ _ _ _ _ _ i _ => M.length - (intOf i).toNat)
  case atStart => exact ⟨0, [], Nat.zero_le _, rfl, ⟨Below.refl _ _, Row.nil _, Own.nil _ _, fun g h => by cases h⟩, by unfold Hid; decide, by simp [Hid]⟩
  case round =>
    obtain ⟨k, N, hk, rfl, htwo, hright, hsub⟩ := hrel
    have hbr := htwo.below
    have hNs : Sh N := fun f hf => short_ok HSH.out f (hsub.out f hf)
    have hN40 := right_le hright.out
    by_cases hlt : k < M.length
    · have hltz : (k : Int) < M.length := by omega
      obtain ⟨a', c', he, hcc, hcells⟩ := HROW.out.below hbr
      cases he
      obtain ⟨g, off, rfl, hg, x0, x1⟩ := hcells k hlt
      have hfm := List.getElem_mem hlt
      have hfs := short_ok HSH.out _ hfm
      obtain ⟨f, hf⟩ : ∃ f, M[k]'hlt = f := ⟨_, rfl⟩
      rw [hf] at x0 x1 hfm hfs
      have HFM := hide hfm
      clear hcells hf hfm
      have htwo1 := htwo.on (one_alloc wr #[.string f.1, .string f.2] 25)
      have hbr1 := hbr.trans ((one_alloc wr #[.string f.1, .string f.2] 25).mono hbr.size)
      have HT1 := hide htwo1
      have HB1 := hide hbr1
      have HNS := hide hNs
      obtain ⟨u3a, u3c, hu3⟩ := htwo.row.slice
      obtain ⟨u4a, u4c, hu4⟩ := htwo.own.row.slice
      subst hu3 hu4
      clear htwo htwo1 hbr hbr1 hNs
      go_wp2_with fail
      refine (add_any N _ f _ HT1.out.row (by omega) HNS.out (by omega) (by omega)).mono ?_
      rintro e w2 ⟨x, rfl, hx2, hb2⟩
      have d0 : w2.cell? ⟨wr.heap.size, 0, none⟩ = some (.string f.1) := by rw [(stays hb2).1 _ _ (by simp)]; go_simp
      have d1 : w2.cell? ⟨wr.heap.size, 1, none⟩ = some (.string f.2) := by rw [(stays hb2).1 _ _ (by simp)]; go_simp
      have hwl : wr.heap.size < w2.heap.size := by have := hb2.size; simp at this; omega
      have HX2 := hide (And.intro hx2 hb2)
      clear hx2 hb2
      go_wp2_with fail
      refine (may_any f w2 (by omega) (by omega)).mono ?_
      rintro e w3 ⟨rfl, hb3⟩
      have e0 := ((stays hb3).1 _ _ hwl).trans d0
      have e1 := ((stays hb3).1 _ _ hwl).trans d1
      have HB3 := hide hb3
      clear hb3 d0 d1
      cases hmy : mayF f
      · have hE := add_arg (L := N) (f := f) (by rw [hright.out, hmy]; rfl)
        rw [hE.1]
        have hxr := HX2.out.1.row.slice
        rw [hE.2] at hxr
        obtain ⟨xa, xc, rfl⟩ := hxr
        clear hE
        go_wp2_with fail
        exact ⟨⟨k + 1, N, by omega, by go_num, (HT1.out.on HX2.out.2).on HB3.out, hright, hsub⟩, by simp [intOf]; omega⟩
      · by_cases h40 : N.length = 40
        · have hE := add_many (L := N) (f := f) (by rw [hright.out, hmy]; rfl) h40
          rw [hE.1]
          have hxr := HX2.out.1.row.slice
          rw [hE.2] at hxr
          obtain ⟨xa, xc, rfl⟩ := hxr
          clear hE
          rw [h40]
          go_wp2_with fail
          exact ⟨⟨k + 1, N, by omega, by go_num, by rw [← h40]; exact (HT1.out.on HX2.out.2).on HB3.out, hright, hsub⟩, by simp [intOf]; omega⟩
        · have hE := add_okay (L := N) (f := f) (by rw [hright.out, hmy]; rfl) h40
          rw [hE.1]
          have hx2 := HX2.out.1
          rw [hE.2] at hx2
          have HX := hide hx2
          clear hE hx2
          have hge : decide ((40 : Int) ≤ N.length) = false := decide_eq_false (by omega)
          have HY := hide (And.intro (((HT1.out.on HX2.out.2).on HB3.out).own.alloc (.cells #[.string f.1, .string f.2] 25)) (And.intro (row_one w3 f) ((HT1.out.on HX2.out.2).on HB3.out).below))
          have hba : w1.heap.size ≤ (w3.alloc (.cells #[.string f.1, .string f.2] 25)).heap.size := by have := HY.out.2.2.size; simp; omega
          go_wp2_with (at_builtin; refine wpList_append_RowAt rfl (.tmp 48) (.tmp 50) rfl w1.heap.size (.slice u4a N.length u4c) (.slice (some ⟨w3.heap.size, 0, none⟩) 1 1) N [f] rfl rfl HY.out.1 HY.out.2.1 (by simp) (by simp; omega) hba ?_; intro v' w5 ho5 hg5 hat5)
          have hnx := Two.next (f := f) HT1.out HX2.out.2 HX.out (HB3.out.trans ((one_alloc w3 #[.string f.1, .string f.2] 25).mono HB3.out.size)) ho5 hg5 hat5
          refine ⟨⟨k + 1, N ++ [f], by omega, by go_num, hnx, right_snoc hright.out h40 hmy, ?_⟩, by simp [intOf]; omega⟩
          · intro x hx
            rcases List.mem_append.1 hx with hx | hx
            · exact hsub.out x hx
            · obtain rfl : x = f := by simpa using hx
              exact HFM.out
    · have hd : decide ((k : Int) < M.length) = false := decide_eq_false (by omega)
      have HT := hide htwo
      have HNS := hide hNs
      clear hbr htwo hNs
      go_wp2_with fail
      refine (alive_any _).mono ?_
      rintro e w2 ⟨rfl, hb2⟩
      go_wp2_with fail
      refine (like_same N _ _ w2 (HT.out.on hb2).row (HT.out.on hb2).own.row (by omega)).mono ?_
      rintro e w3 ⟨rfl, hb3⟩
      go_wp2_with fail
      refine (right_any N _ w3 ((HT.out.on hb2).on hb3).row (by omega) HNS.out).mono ?_
      rintro e w4 ⟨rfl, hb4⟩
      rw [hright.out]
      go_wp2_with fail
      go_ret
      exact ⟨rfl, hb1.trans ((((HT.out.on hb2).on hb3).on hb4).below.mono hb1.size)⟩

end Go.Proofs.Ytcikaehcmlbgfaa
