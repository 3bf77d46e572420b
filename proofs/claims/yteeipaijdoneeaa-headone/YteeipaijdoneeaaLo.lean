/- The walk of HeadOne. -/
import Derived.Test.YteeipaijdoneeaaAl
import Derived.Test.YteeipaijdoneeaaFo
namespace Go.Proofs.Yteeipaijdoneeaa
set_option linter.unusedVariables false
set_option linter.unusedSimpArgs false
open Go.RowKit

/-- What comes of a line that is no field: 31, or 2 where all is too long. -/
theorem ps_noline {M : List Fd} {t : ByteArray} (h : prE M = 0) (ht : prS M = t) : (psU (t ++ ⟨#[110, 111, 32, 108, 105, 110, 101, 13, 10]⟩).data.toList).2 = 31 ∨ 3980 < t.size ∧ (psU (t ++ ⟨#[110, 111, 32, 108, 105, 110, 101, 13, 10]⟩).data.toList).2 = 2 := by
  obtain ⟨h1, h2, h3⟩ := pr_ok h
  have htl : t.data.toList = wrL M := by rw [← ht, h3, bs_list]
  have e : (t ++ ⟨#[110, 111, 32, 108, 105, 110, 101, 13, 10]⟩).data.toList = wrL M ++ ([110, 111, 32, 108, 105, 110, 101, 13] ++ [10]) := by rw [app_list, htl]; rfl
  rw [e]
  by_cases hl : (wrL M ++ ([110, 111, 32, 108, 105, 110, 101, 13] ++ [10])).length ≤ 4000
  · rw [ps_bad h1 (by decide) (by decide) hl]; exact Or.inl rfl
  · rw [ps_long (by omega)]
    refine Or.inr ⟨?_, rfl⟩
    rw [List.length_append, ← htl, size_list] at hl
    simp at hl
    omega
theorem ps_noname {M : List Fd} {t : ByteArray} (h : prE M = 0) (ht : prS M = t) : (psU (t ++ ⟨#[58, 32, 110, 111, 110, 101, 10]⟩).data.toList).2 = 31 ∨ 3980 < t.size ∧ (psU (t ++ ⟨#[58, 32, 110, 111, 110, 101, 10]⟩).data.toList).2 = 2 := by
  obtain ⟨h1, h2, h3⟩ := pr_ok h
  have htl : t.data.toList = wrL M := by rw [← ht, h3, bs_list]
  have e : (t ++ ⟨#[58, 32, 110, 111, 110, 101, 10]⟩).data.toList = wrL M ++ ([58, 32, 110, 111, 110, 101] ++ [10]) := by rw [app_list, htl]; rfl
  rw [e]
  by_cases hl : (wrL M ++ ([58, 32, 110, 111, 110, 101] ++ [10])).length ≤ 4000
  · rw [ps_bad h1 (by decide) (by decide +kernel) hl]; exact Or.inl rfl
  · rw [ps_long (by omega)]
    refine Or.inr ⟨?_, rfl⟩
    rw [List.length_append, ← htl, size_list] at hl
    simp at hl
    omega
theorem pr_snoc {M : List Fd} {f : Fd} {t u : ByteArray} (h : prE M = 0) (g : prE (M ++ [f]) = 0) (ht : prS M = t) (hu : prS (M ++ [f]) = u) : u = t ++ f.1 ++ ⟨#[58, 32]⟩ ++ f.2 ++ ⟨#[13, 10]⟩ := by
  have h3 := (pr_ok h).2.2
  have g3 := (pr_ok g).2.2
  apply bytes_ext
  rw [← hu, g3, ← ht, h3, bs_list, wrL_append]
  simp [bs_list, wrL, wr1]

/-- One row is put behind another one, which the call has made, in a region that draws its order. -/
theorem op_append_Row {o : Oper} {a : Act} {w : World} {K : Act → World → Prop} {Q : Exit → Act → World → Prop} (s x : Operand)
    (ho : o.op = .call { callee := .builtin .append, args := #[s, x], argTypes := #[22, 22] }) (base : Nat) (v vx : Value) (D L : List Fd) (hs : a.eval s = v) (hx : a.eval x = vx)
    (hown : Own w base v D) (hrow : Row w vx L) (hl : D.length + L.length ≤ 1000000) (hbase : base ≤ w.heap.size)
    (h : ∀ v' w', Own w' base v' (D ++ L) → w.grownBy w' v.ownBlock → K (a.put o.dst v') w') : Oper.wp Try.prog o a w K Q := by
  obtain ⟨i0, hi0, hz0, hz1, hz2⟩ := info_parts Try.info38
  obtain ⟨b, cap, rfl, hcap, hR⟩ := hrow
  by_cases h0 : L.length = 0
  · obtain rfl : L = [] := List.eq_nil_of_length_eq_zero h0
    have hrun := run_append_owned_zero (P := Try.prog) (w := w) base 22 o.type 38 i0 2 Try.underlying22 hi0 v D.length (fcells D) hown b cap
    unfold Oper.wp
    simp [execOp, ho, resolve, invoke, builtin, hs, hx, hrun, Result.andThen]
    exact h v w (by rw [List.append_nil]; exact hown) (grownBy_refl _ _)
  · obtain ⟨g, off, rfl, -, -⟩ := hR 0 (by omega)
    refine wp_append_own _ s x 22 ho base 38 i0 _ 2 32 Try.underlying22 hi0 hz0 hz1 hz2 rfl (by decide) v D.length (fcells D) hs hown ⟨g, off, none⟩ L.length cap (fcells L) hx (fcells_length L) (row_cells (cap := cap) hR) (fcells_one L) (maxLen_of (by omega)) (by omega) hbase ?_
    intro v' w' h1 h2 _
    refine h v' w' ?_ h2
    unfold Own
    rw [List.length_append, fcells_append]
    exact h1
theorem own_ne {B C : Nat} (hne : B ≠ C) (n c n' : Nat) : ∀ g off cap, (.slice (some ⟨B, 0, none⟩) n c : Value) = .slice (some ⟨g, off, none⟩) n' cap → (.slice (some ⟨C, 0, none⟩) 0 0 : Value).ownBlock ≠ some g := by
  intro g off cap e h
  have e1 : (⟨B, 0, none⟩ : Addr) = ⟨g, off, none⟩ := by injection e with e _ _; exact Option.some.inj e
  have e2 : B = g := congrArg Addr.block e1
  have h1 : C = g := Option.some.inj h
  omega
theorem sh_snoc {M : List Fd} {f : Fd} (h : Sh M) (h1 : f.1.size ≤ 10000) (h2 : f.2.size ≤ 10000) : Sh (M ++ [f]) := by
  intro g hg
  rcases List.mem_append.1 hg with hg | hg
  · exact h g hg
  · obtain rfl : g = f := by simpa using hg
    exact ⟨h1, h2⟩

set_option maxRecDepth 100000 in
set_option maxHeartbeats 8000000 in
theorem one_walk (L : List Fd) (ad : Option Addr) (cap : Nat) (s z : ByteArray) (w : World) (hr : Row w (.slice ad L.length cap) L) (hcm : cap ≤ maxLen) (hs : ∀ f ∈ L, f.1.size ≤ maxLen ∧ f.2.size ≤ maxLen) (hws : s.size ≤ maxLen) (hwz : z.size ≤ maxLen) :
    Calls Try.prog 7 #[.slice ad L.length cap, .string s, .string z] w fun e w' => e = .returned (.bool true) ∧ Below w.heap.size w w' := by
  have HR := hide hr
  have HS := hide hs
  clear hr hs
  obtain ⟨p, hp⟩ : ∃ p : Nat, p = min s.size 60 := ⟨_, rfl⟩
  have hp1 : p ≤ s.size := by omega
  have hp2 : p ≤ 60 := by omega
  have HP := hide hp
  obtain ⟨q, hq⟩ : ∃ q : Nat, q = min z.size 300 := ⟨_, rfl⟩
  have hq1 : q ≤ z.size := by omega
  have hq2 : q ≤ 300 := by omega
  have HQ := hide hq
  clear hp hq
  go_enter Try.func7, Try.ntmps7
  go_wp2_with fail
  refine (few_any L ad cap _ HR.out hcm HS.out).mono ?_
  rintro e w1 ⟨r, M, rfl, hrow, hlen, hsh, hb1⟩
  obtain ⟨ar, cr, rfl⟩ := hrow.slice
  have HROW := hide hrow
  have HSH := hide (short_ok hsh)
  clear hrow hsh HR HS
  go_wp2_with fail
  refine wp_region_held_drew (S := (fun _ => True)) (by kernel_rfl) (trivial) (fun hHeld => ?_)
  refine wpAnyH_take (i := 0) (oi := _) (v := .string s) rfl (by kernel_rfl) (by kernel_rfl) (by kernel_rfl) (fun _ _ _ h => h) (Or.inl ⟨by rfl, fun wS hSw => by go_simp⟩) (by first | trivial | assumption) ?_
  simp only [Act.put, List.setIfInBounds_toArray, List.set_cons_zero, List.set_cons_succ]
  refine wpAnyH_take (i := 1) (oi := _) (v := .string s) rfl (by kernel_rfl) (by kernel_rfl) (by kernel_rfl) (fun _ _ _ h => h) (Or.inl ⟨by rfl, fun wS hSw => by go_simp⟩) (by first | trivial | assumption) ?_
  simp only [Act.put, List.setIfInBounds_toArray, List.set_cons_zero, List.set_cons_succ]
  refine wpAnyH_take (i := 2) (oi := _) (v := .int .i64 s.size) rfl (by kernel_rfl) (by kernel_rfl) (by kernel_rfl) (fun _ _ _ h => h) (Or.inl ⟨by rfl, fun wS hSw => by go_simp⟩) (by first | trivial | assumption) ?_
  simp only [Act.put, List.setIfInBounds_toArray, List.set_cons_zero, List.set_cons_succ]
  refine wpAnyH_take (i := 3) (oi := _) (v := .int .i64 p) rfl (by kernel_rfl) (by kernel_rfl) (by kernel_rfl) (fun _ _ _ h => h) (Or.inl ⟨by rfl, fun wS hSw => by go_simp; have := HP.out; omega⟩) (by first | trivial | assumption) ?_
  simp only [Act.put, List.setIfInBounds_toArray, List.set_cons_zero, List.set_cons_succ]
  refine wpAnyH_take (i := 4) (oi := _) (v := .string (s.extract 0 p)) rfl (by kernel_rfl) (by kernel_rfl) (by kernel_rfl) (fun _ _ _ h => h) (Or.inl ⟨by rfl, fun wS hSw => by go_simp⟩) (by first | trivial | assumption) ?_
  simp only [Act.put, List.setIfInBounds_toArray, List.set_cons_zero, List.set_cons_succ]
  refine wpAnyH_take (i := 5) (oi := _) (v := .string z) rfl (by kernel_rfl) (by kernel_rfl) (by kernel_rfl) (fun _ _ _ h => h) (Or.inl ⟨by rfl, fun wS hSw => by go_simp⟩) (by first | trivial | assumption) ?_
  simp only [Act.put, List.setIfInBounds_toArray, List.set_cons_zero, List.set_cons_succ]
  refine wpAnyH_take (i := 6) (oi := _) (v := .string z) rfl (by kernel_rfl) (by kernel_rfl) (by kernel_rfl) (fun _ _ _ h => h) (Or.inl ⟨by rfl, fun wS hSw => by go_simp⟩) (by first | trivial | assumption) ?_
  simp only [Act.put, List.setIfInBounds_toArray, List.set_cons_zero, List.set_cons_succ]
  refine wpAnyH_take (i := 7) (oi := _) (v := .int .i64 z.size) rfl (by kernel_rfl) (by kernel_rfl) (by kernel_rfl) (fun _ _ _ h => h) (Or.inl ⟨by rfl, fun wS hSw => by go_simp⟩) (by first | trivial | assumption) ?_
  simp only [Act.put, List.setIfInBounds_toArray, List.set_cons_zero, List.set_cons_succ]
  refine wpAnyH_take (i := 8) (oi := _) (v := .int .i64 q) rfl (by kernel_rfl) (by kernel_rfl) (by kernel_rfl) (fun _ _ _ h => h) (Or.inl ⟨by rfl, fun wS hSw => by go_simp; have := HQ.out; omega⟩) (by first | trivial | assumption) ?_
  simp only [Act.put, List.setIfInBounds_toArray, List.set_cons_zero, List.set_cons_succ]
  refine wpAnyH_take (i := 9) (oi := _) (v := .string (z.extract 0 q)) rfl (by kernel_rfl) (by kernel_rfl) (by kernel_rfl) (fun _ _ _ h => h) (Or.inl ⟨by rfl, fun wS hSw => by go_simp⟩) (by first | trivial | assumption) ?_
  simp only [Act.put, List.setIfInBounds_toArray, List.set_cons_zero, List.set_cons_succ]
  refine wpAnyH_take (i := 10) (oi := _) (v := .agg #[.string (s.extract 0 p), .string (z.extract 0 q)]) rfl (by kernel_rfl) (by kernel_rfl) (by kernel_rfl) (fun _ _ _ h => h) (Or.inl ⟨by rfl, fun wS hSw => by go_simp⟩) (by first | trivial | assumption) ?_
  simp only [Act.put, List.setIfInBounds_toArray, List.set_cons_zero, List.set_cons_succ]
  refine wpAnyH_ready (rs := [11]) (by kernel_rfl) (by simp) ?_
  refine AllReadyH.cons (o := _) rfl (fun K hK => ?_) AllReadyH.nil
  go_simp
  refine hK.out _ _ (trivial) (fun hHeld => ?_)
  clear hK K
  refine wpAnyH_ready (rs := [12]) (by kernel_rfl) (by simp) ?_
  refine AllReadyH.cons (o := _) rfl (fun K hK => ?_) AllReadyH.nil
  go_simp
  refine hK.out _ _ (trivial) (fun hHeld => ?_)
  clear hK K
  refine wpAnyH_done (by kernel_rfl) ?_ _
  have hx1 : (s.extract 0 p).size ≤ 60 := by rw [ByteArray.size_extract]; omega
  have hx2 : (z.extract 0 q).size ≤ 300 := by rw [ByteArray.size_extract]; omega
  generalize s.extract 0 p = x at hx1 ⊢
  generalize z.extract 0 q = y at hx2 ⊢
  clear HP HQ hp1 hp2 hq1 hq2
  have hb2 : Below w1.heap.size w1 (w1.alloc (.cells #[.string x, .string y] 38)).drew := (one_alloc w1 #[.string x, .string y] 38).drew
  have hB2 := hb1.trans (hb2.mono hb1.size)
  have HR2 := hide (HROW.out.below hb2)
  have c0 : (w1.alloc (.cells #[.string x, .string y] 38)).drew.cell? ⟨w1.heap.size, 0, none⟩ = some (.string x) := by show (w1.alloc _).cell? _ = _; go_simp
  have c1 : (w1.alloc (.cells #[.string x, .string y] 38)).drew.cell? ⟨w1.heap.size, 1, none⟩ = some (.string y) := by show (w1.alloc _).cell? _ = _; go_simp
  have hN : w1.heap.size < (w1.alloc (.cells #[.string x, .string y] 38)).drew.heap.size := by show _ < (w1.alloc _).heap.size; simp
  generalize (w1.alloc (.cells #[.string x, .string y] 38)).drew = w2 at hb2 hB2 HR2 c0 c1 hN ⊢
  generalize w1.heap.size = N at hb2 c0 c1 hN ⊢
  clear hb2 hb1 HROW
  go_wp2_with fail
  refine (print_any M _ w2 HR2.out (by omega) HSH.out).mono ?_
  rintro e W2 ⟨rfl, hb3⟩
  have hB3 := hB2.trans (hb3.mono hB2.size)
  have HR3 := hide (HR2.out.below hb3)
  have d0 := ((stays hb3).1 _ _ hN).trans c0
  have d1 := ((stays hb3).1 _ _ hN).trans c1
  have hN3 : N < W2.heap.size := Nat.lt_of_lt_of_le hN hb3.size
  have HSX := hide (sh_snoc (f := (x, y)) HSH.out (show x.size ≤ 10000 by omega) (show y.size ≤ 10000 by omega))
  have HML : Hid ((M ++ [(x, y)]).length ≤ 1000000) := by unfold Hid; simp; omega
  clear hb3 hB2 HR2 c0 c1 hN HSH
  obtain ⟨c, hc⟩ : ∃ c, prE M = c := ⟨_, rfl⟩
  obtain ⟨t, ht⟩ : ∃ t, prS M = t := ⟨_, rfl⟩
  have hts := prS_size M
  rw [ht] at hts
  rw [hc, ht]
  have HC := hide hc
  have HT := hide ht
  clear hc ht
  go_upto_region 4 with fail
  go_cut [10, 11] (fun s10 s11 wd => s10 = .string (prS (M ++ [(x, y)])) ∧ s11 = .int .i64 (prE (M ++ [(x, y)])) ∧ Below W2.heap.size W2 wd)
  case first =>
    refine wp_region_held_drew (S := (fun w' => Below W2.heap.size W2 w')) (by kernel_rfl) ((Below.refl _ _).drew) (fun hHeld => ?_)
    refine wpAnyH_take (i := 1) (oi := _) (v := .slice ar M.length cr) rfl (by kernel_rfl) (by kernel_rfl) (by kernel_rfl) (fun _ _ _ h => h) (Or.inl ⟨by rfl, fun wS hSw => by go_simp⟩) (by first | trivial | assumption) ?_
    simp only [Act.put, List.setIfInBounds_toArray, List.set_cons_zero, List.set_cons_succ]
    refine wpAnyH_take (i := 3) (oi := _) (v := .agg #[.string x, .string y]) rfl (by kernel_rfl) (by kernel_rfl) (by kernel_rfl) (fun _ _ _ h => h) (Or.inl ⟨by kernel_rfl, fun wS hSw => by have l0 := ((stays hSw).1 _ _ hN3).trans d0; have l1 := ((stays hSw).1 _ _ hN3).trans d1; go_simp⟩) (by first | trivial | assumption) ?_
    simp only [Act.put, List.setIfInBounds_toArray, List.set_cons_zero, List.set_cons_succ]
    refine wpAnyH_ready (rs := [0, 4]) (by kernel_rfl) (by simp) ?_
    refine AllReadyH.cons (o := _) rfl (fun K hK => ?_) (AllReadyH.cons (o := _) rfl (fun K hK => ?_) AllReadyH.nil)
    · go_simp
      have hbA : Below W2.heap.size W2 ((W2.alloc (.cells #[] 38)).drew) := ((Below.refl _ _).alloc (Nat.le_refl _) _).drew
      have hoA : Own (W2.alloc (.cells #[] 38)).drew W2.heap.size (.slice (some ⟨W2.heap.size, 0, none⟩) 0 0) [] := World.ownsRow_lit W2 #[] 0 (Nat.le_refl _) (by decide) rfl
      refine hK.out _ _ hbA (fun hHeld => ?_)
      clear hK K
      refine wpAnyH_ready (rs := [2, 4]) (by kernel_rfl) (by simp) ?_
      refine AllReadyH.cons (o := _) rfl (fun K hK => ?_) (AllReadyH.cons (o := _) rfl (fun K hK => ?_) AllReadyH.nil)
      · rw [if_pos (by rfl)]
        refine op_append_Row (.tmp 35) (.tmp 36) rfl W2.heap.size (.slice (some ⟨W2.heap.size, 0, none⟩) 0 0) (.slice ar M.length cr) [] M rfl rfl hoA (HR3.out.below hbA) (by simp; omega) hbA.size ?_
        intro v3 w3 ho3 hg3
        rw [List.nil_append] at ho3
        have hb3 := hbA.grown hg3 hbA.size (own_block hoA)
        refine hK.out _ _ hb3 (fun hHeld => ?_)
        clear hK K
        refine wpAnyH_ready (rs := [4]) (by kernel_rfl) (by simp) ?_
        refine AllReadyH.cons (o := _) rfl (fun K hK => ?_) AllReadyH.nil
        go_simp
        have hb4 : Below W2.heap.size W2 (w3.alloc (.cells #[.string x, .string y] 38)) := hb3.alloc hb3.size _
        refine hK.out _ _ hb4 (fun hHeld => ?_)
        clear hK K
        refine wpAnyH_ready (rs := [5]) (by kernel_rfl) (by simp) ?_
        refine AllReadyH.cons (o := _) rfl (fun K hK => ?_) AllReadyH.nil
        rw [if_pos (by rfl)]
        refine op_append_Row (.tmp 37) (.tmp 39) rfl W2.heap.size v3 (.slice (some ⟨w3.heap.size, 0, none⟩) 1 1) M [(x, y)] rfl rfl (ho3.alloc _) (row_one (by go_simp) (by go_simp)) (by simp; omega) hb4.size ?_
        intro v5 w5 ho5 hg5
        have hb5 := hb4.grown hg5 hb4.size (own_block (ho3.alloc (.cells #[.string x, .string y] 38)))
        refine hK.out _ _ hb5 (fun hHeld => ?_)
        clear hK K
        refine wpAnyH_ready (rs := [6]) (by kernel_rfl) (by simp) ?_
        refine AllReadyH.cons (o := _) rfl (fun K hK => ?_) AllReadyH.nil
        go_simp
        refine (print_any (M ++ [(x, y)]) v5 w5 ho5.row HML.out HSX.out).mono ?_
        rintro e w6 ⟨rfl, hb6⟩
        have hB6 : Below W2.heap.size W2 w6 := hb5.trans (hb6.mono hb5.size)
        refine hK.out _ _ (hB6) (fun hHeld => ?_)
        clear hK K
        refine wpAnyH_take (i := 7) (oi := _) (v := .tuple #[.string (prS (M ++ [(x, y)])), .int .i64 (prE (M ++ [(x, y)]))]) rfl (by kernel_rfl) (by kernel_rfl) (by kernel_rfl) (fun _ _ _ h => h) (Or.inl ⟨by rfl, fun wS hSw => by go_simp⟩) (by first | trivial | assumption) ?_
        simp only [Act.put, List.setIfInBounds_toArray, List.set_cons_zero, List.set_cons_succ]
        refine wpAnyH_take (i := 8) (oi := _) (v := .string (prS (M ++ [(x, y)]))) rfl (by kernel_rfl) (by kernel_rfl) (by kernel_rfl) (fun _ _ _ h => h) (Or.inl ⟨by rfl, fun wS hSw => by go_simp⟩) (by first | trivial | assumption) ?_
        simp only [Act.put, List.setIfInBounds_toArray, List.set_cons_zero, List.set_cons_succ]
        refine wpAnyH_take (i := 9) (oi := _) (v := .int .i64 (prE (M ++ [(x, y)]))) rfl (by kernel_rfl) (by kernel_rfl) (by kernel_rfl) (fun _ _ _ h => h) (Or.inl ⟨by rfl, fun wS hSw => by go_simp⟩) (by first | trivial | assumption) ?_
        simp only [Act.put, List.setIfInBounds_toArray, List.set_cons_zero, List.set_cons_succ]
        refine wpAnyH_ready (rs := [10]) (by kernel_rfl) (by simp) ?_
        refine AllReadyH.cons (o := _) rfl (fun K hK => ?_) AllReadyH.nil
        go_simp
        refine hK.out _ _ (hB6) (fun hHeld => ?_)
        clear hK K
        refine wpAnyH_ready (rs := [11]) (by kernel_rfl) (by simp) ?_
        refine AllReadyH.cons (o := _) rfl (fun K hK => ?_) AllReadyH.nil
        go_simp
        refine hK.out _ _ (hB6) (fun hHeld => ?_)
        clear hK K
        refine wpAnyH_done (by kernel_rfl) ?_ _
        go_wp2_with fail
        go_meet
        exact ⟨rfl, rfl, hB6⟩
      · go_simp
        have hb4 : Below W2.heap.size W2 ((W2.alloc (.cells #[] 38)).alloc (.cells #[.string x, .string y] 38)).drew := (((Below.refl _ _).alloc (Nat.le_refl _) _).alloc (by simp) _).drew
        have ho4 : Own ((W2.alloc (.cells #[] 38)).alloc (.cells #[.string x, .string y] 38)).drew W2.heap.size (.slice (some ⟨W2.heap.size, 0, none⟩) 0 0) [] := Own.alloc (w := W2.alloc (.cells #[] 38)) hoA _
        have hr4 : Row ((W2.alloc (.cells #[] 38)).alloc (.cells #[.string x, .string y] 38)).drew (.slice (some ⟨W2.heap.size + 1, 0, none⟩) 1 1) [(x, y)] := row_one (w := ((W2.alloc (.cells #[] 38)).alloc (.cells #[.string x, .string y] 38))) (by go_simp) (by go_simp)
        refine hK.out _ _ hb4 (fun hHeld => ?_)
        clear hK K
        have hne := own_ne (B := W2.heap.size + 1) (C := W2.heap.size) (by omega) 1 1 [(x, y)].length
        generalize ((W2.alloc (.cells #[] 38)).alloc (.cells #[.string x, .string y] 38)).drew = w4 at hb4 ho4 hr4 ⊢
        refine wpAnyH_ready (rs := [2]) (by kernel_rfl) (by simp) ?_
        refine AllReadyH.cons (o := _) rfl (fun K hK => ?_) AllReadyH.nil
        rw [if_pos (by rfl)]
        refine op_append_Row (.tmp 35) (.tmp 36) rfl W2.heap.size (.slice (some ⟨W2.heap.size, 0, none⟩) 0 0) (.slice ar M.length cr) [] M rfl rfl ho4 (HR3.out.below hb4) (by simp; omega) hb4.size ?_
        intro v3 w3 ho3 hg3
        rw [List.nil_append] at ho3
        have hb3 := hb4.grown hg3 hb4.size (own_block ho4)
        have hr3 := hr4.grown hg3 hne
        refine hK.out _ _ hb3 (fun hHeld => ?_)
        clear hK K
        refine wpAnyH_ready (rs := [5]) (by kernel_rfl) (by simp) ?_
        refine AllReadyH.cons (o := _) rfl (fun K hK => ?_) AllReadyH.nil
        rw [if_pos (by rfl)]
        refine op_append_Row (.tmp 37) (.tmp 39) rfl W2.heap.size v3 _ M [(x, y)] rfl rfl ho3 hr3 (by simp; omega) hb3.size ?_
        intro v5 w5 ho5 hg5
        have hb5 := hb3.grown hg5 hb3.size (own_block ho3)
        refine hK.out _ _ hb5 (fun hHeld => ?_)
        clear hK K
        refine wpAnyH_ready (rs := [6]) (by kernel_rfl) (by simp) ?_
        refine AllReadyH.cons (o := _) rfl (fun K hK => ?_) AllReadyH.nil
        go_simp
        refine (print_any (M ++ [(x, y)]) v5 w5 ho5.row HML.out HSX.out).mono ?_
        rintro e w6 ⟨rfl, hb6⟩
        have hB6 : Below W2.heap.size W2 w6 := hb5.trans (hb6.mono hb5.size)
        refine hK.out _ _ (hB6) (fun hHeld => ?_)
        clear hK K
        refine wpAnyH_take (i := 7) (oi := _) (v := .tuple #[.string (prS (M ++ [(x, y)])), .int .i64 (prE (M ++ [(x, y)]))]) rfl (by kernel_rfl) (by kernel_rfl) (by kernel_rfl) (fun _ _ _ h => h) (Or.inl ⟨by rfl, fun wS hSw => by go_simp⟩) (by first | trivial | assumption) ?_
        simp only [Act.put, List.setIfInBounds_toArray, List.set_cons_zero, List.set_cons_succ]
        refine wpAnyH_take (i := 8) (oi := _) (v := .string (prS (M ++ [(x, y)]))) rfl (by kernel_rfl) (by kernel_rfl) (by kernel_rfl) (fun _ _ _ h => h) (Or.inl ⟨by rfl, fun wS hSw => by go_simp⟩) (by first | trivial | assumption) ?_
        simp only [Act.put, List.setIfInBounds_toArray, List.set_cons_zero, List.set_cons_succ]
        refine wpAnyH_take (i := 9) (oi := _) (v := .int .i64 (prE (M ++ [(x, y)]))) rfl (by kernel_rfl) (by kernel_rfl) (by kernel_rfl) (fun _ _ _ h => h) (Or.inl ⟨by rfl, fun wS hSw => by go_simp⟩) (by first | trivial | assumption) ?_
        simp only [Act.put, List.setIfInBounds_toArray, List.set_cons_zero, List.set_cons_succ]
        refine wpAnyH_ready (rs := [10]) (by kernel_rfl) (by simp) ?_
        refine AllReadyH.cons (o := _) rfl (fun K hK => ?_) AllReadyH.nil
        go_simp
        refine hK.out _ _ (hB6) (fun hHeld => ?_)
        clear hK K
        refine wpAnyH_ready (rs := [11]) (by kernel_rfl) (by simp) ?_
        refine AllReadyH.cons (o := _) rfl (fun K hK => ?_) AllReadyH.nil
        go_simp
        refine hK.out _ _ (hB6) (fun hHeld => ?_)
        clear hK K
        refine wpAnyH_done (by kernel_rfl) ?_ _
        go_wp2_with fail
        go_meet
        exact ⟨rfl, rfl, hB6⟩
    · go_simp
      have hb4 : Below W2.heap.size W2 (W2.alloc (.cells #[.string x, .string y] 38)).drew := ((Below.refl _ _).alloc (Nat.le_refl _) _).drew
      refine hK.out _ _ hb4 (fun hHeld => ?_)
      clear hK K
      refine wpAnyH_ready (rs := [0]) (by kernel_rfl) (by simp) ?_
      refine AllReadyH.cons (o := _) rfl (fun K hK => ?_) AllReadyH.nil
      go_simp
      have hb5 : Below W2.heap.size W2 ((W2.alloc (.cells #[.string x, .string y] 38)).alloc (.cells #[] 38)).drew := (((Below.refl _ _).alloc (Nat.le_refl _) _).alloc (by simp) _).drew
      have ho4 : Own ((W2.alloc (.cells #[.string x, .string y] 38)).alloc (.cells #[] 38)).drew W2.heap.size (.slice (some ⟨W2.heap.size + 1, 0, none⟩) 0 0) [] := by
        have := World.ownsRow_lit (base := W2.heap.size) (e := 38) (size := 2) (W2.alloc (.cells #[.string x, .string y] 38)) #[] 0 (by simp) (by decide) rfl
        rw [World.size_alloc] at this
        exact this
      have hr4 : Row ((W2.alloc (.cells #[.string x, .string y] 38)).alloc (.cells #[] 38)).drew (.slice (some ⟨W2.heap.size, 0, none⟩) 1 1) [(x, y)] := Row.below (w := W2.alloc (.cells #[.string x, .string y] 38)) (row_one (by go_simp) (by go_simp)) (one_alloc _ _ _).drew
      refine hK.out _ _ hb5 (fun hHeld => ?_)
      clear hK K
      have hne := own_ne (B := W2.heap.size) (C := W2.heap.size + 1) (by omega) 1 1 [(x, y)].length
      have hb4 := hb5
      clear hb5
      generalize ((W2.alloc (.cells #[.string x, .string y] 38)).alloc (.cells #[] 38)).drew = w4 at hb4 ho4 hr4 ⊢
      refine wpAnyH_ready (rs := [2]) (by kernel_rfl) (by simp) ?_
      refine AllReadyH.cons (o := _) rfl (fun K hK => ?_) AllReadyH.nil
      rw [if_pos (by rfl)]
      refine op_append_Row (.tmp 35) (.tmp 36) rfl W2.heap.size (.slice (some ⟨W2.heap.size + 1, 0, none⟩) 0 0) (.slice ar M.length cr) [] M rfl rfl ho4 (HR3.out.below hb4) (by simp; omega) hb4.size ?_
      intro v3 w3 ho3 hg3
      rw [List.nil_append] at ho3
      have hb3 := hb4.grown hg3 hb4.size (own_block ho4)
      have hr3 := hr4.grown hg3 hne
      refine hK.out _ _ hb3 (fun hHeld => ?_)
      clear hK K
      refine wpAnyH_ready (rs := [5]) (by kernel_rfl) (by simp) ?_
      refine AllReadyH.cons (o := _) rfl (fun K hK => ?_) AllReadyH.nil
      rw [if_pos (by rfl)]
      refine op_append_Row (.tmp 37) (.tmp 39) rfl W2.heap.size v3 _ M [(x, y)] rfl rfl ho3 hr3 (by simp; omega) hb3.size ?_
      intro v5 w5 ho5 hg5
      have hb5 := hb3.grown hg5 hb3.size (own_block ho3)
      refine hK.out _ _ hb5 (fun hHeld => ?_)
      clear hK K
      refine wpAnyH_ready (rs := [6]) (by kernel_rfl) (by simp) ?_
      refine AllReadyH.cons (o := _) rfl (fun K hK => ?_) AllReadyH.nil
      go_simp
      refine (print_any (M ++ [(x, y)]) v5 w5 ho5.row HML.out HSX.out).mono ?_
      rintro e w6 ⟨rfl, hb6⟩
      have hB6 : Below W2.heap.size W2 w6 := hb5.trans (hb6.mono hb5.size)
      refine hK.out _ _ (hB6) (fun hHeld => ?_)
      clear hK K
      refine wpAnyH_take (i := 7) (oi := _) (v := .tuple #[.string (prS (M ++ [(x, y)])), .int .i64 (prE (M ++ [(x, y)]))]) rfl (by kernel_rfl) (by kernel_rfl) (by kernel_rfl) (fun _ _ _ h => h) (Or.inl ⟨by rfl, fun wS hSw => by go_simp⟩) (by first | trivial | assumption) ?_
      simp only [Act.put, List.setIfInBounds_toArray, List.set_cons_zero, List.set_cons_succ]
      refine wpAnyH_take (i := 8) (oi := _) (v := .string (prS (M ++ [(x, y)]))) rfl (by kernel_rfl) (by kernel_rfl) (by kernel_rfl) (fun _ _ _ h => h) (Or.inl ⟨by rfl, fun wS hSw => by go_simp⟩) (by first | trivial | assumption) ?_
      simp only [Act.put, List.setIfInBounds_toArray, List.set_cons_zero, List.set_cons_succ]
      refine wpAnyH_take (i := 9) (oi := _) (v := .int .i64 (prE (M ++ [(x, y)]))) rfl (by kernel_rfl) (by kernel_rfl) (by kernel_rfl) (fun _ _ _ h => h) (Or.inl ⟨by rfl, fun wS hSw => by go_simp⟩) (by first | trivial | assumption) ?_
      simp only [Act.put, List.setIfInBounds_toArray, List.set_cons_zero, List.set_cons_succ]
      refine wpAnyH_ready (rs := [10]) (by kernel_rfl) (by simp) ?_
      refine AllReadyH.cons (o := _) rfl (fun K hK => ?_) AllReadyH.nil
      go_simp
      refine hK.out _ _ (hB6) (fun hHeld => ?_)
      clear hK K
      refine wpAnyH_ready (rs := [11]) (by kernel_rfl) (by simp) ?_
      refine AllReadyH.cons (o := _) rfl (fun K hK => ?_) AllReadyH.nil
      go_simp
      refine hK.out _ _ (hB6) (fun hHeld => ?_)
      clear hK K
      refine wpAnyH_done (by kernel_rfl) ?_ _
      go_wp2_with fail
      go_meet
      exact ⟨rfl, rfl, hB6⟩
  case rest =>
    obtain ⟨rfl, rfl, hbc⟩ := hcut
    have hB4 := hB3.trans (hbc.mono hB3.size)
    have c0 := ((stays hbc).1 _ _ hN3).trans d0
    have c1 := ((stays hbc).1 _ _ hN3).trans d1
    have hN4 : N < wc.heap.size := Nat.lt_of_lt_of_le hN3 hbc.size
    clear hbc hB3 d0 d1 hN3 HR3 HSX HML
    obtain ⟨d, hd⟩ : ∃ d, prE (M ++ [(x, y)]) = d := ⟨_, rfl⟩
    obtain ⟨u, hu⟩ : ∃ u, prS (M ++ [(x, y)]) = u := ⟨_, rfl⟩
    have hus := prS_size (M ++ [(x, y)])
    rw [hu] at hus
    rw [hd, hu]
    have HD := hide hd
    have HU := hide hu
    clear hd hu
    by_cases hc : c = 0
    · subst hc
      by_cases hd : d = 0
      · subst hd
        have H1 := hide (parse_any (t ++ ⟨#[110, 111, 32, 108, 105, 110, 101, 13, 10]⟩))
        have H2 := hide (parse_any (t ++ ⟨#[58, 32, 110, 111, 110, 101, 10]⟩))
        have hk1 := ps_noline HC.out HT.out
        have hk2 := ps_noname HC.out HT.out
        have HZ1 : Hid ((t ++ ⟨#[110, 111, 32, 108, 105, 110, 101, 13, 10]⟩).size ≤ 10000) := by unfold Hid; rw [ByteArray.size_append]; have : (⟨#[110, 111, 32, 108, 105, 110, 101, 13, 10]⟩ : ByteArray).size = 9 := rfl; omega
        have HZ2 : Hid ((t ++ ⟨#[58, 32, 110, 111, 110, 101, 10]⟩).size ≤ 10000) := by unfold Hid; rw [ByteArray.size_append]; have : (⟨#[58, 32, 110, 111, 110, 101, 10]⟩ : ByteArray).size = 7 := rfl; omega
        have HSN := hide (pr_snoc HC.out HD.out HT.out HU.out)
        generalize psU (t ++ ⟨#[110, 111, 32, 108, 105, 110, 101, 13, 10]⟩).data.toList = X at H1 hk1
        generalize psU (t ++ ⟨#[58, 32, 110, 111, 110, 101, 10]⟩).data.toList = Y at H2 hk2
        obtain ⟨X, k1⟩ := X
        obtain ⟨Y, k2⟩ := Y
        simp only at H1 H2 hk1 hk2
        have HK1 := hide hk1
        have HK2 := hide hk2
        clear hk1 hk2 HC HD HT HU
        go_wp2_with fail
        refine (H1.out _ HZ1.out).mono ?_
        rintro e w5 ⟨v5, rfl, hr5, hb5⟩
        have hB5 := hB4.trans (hb5.mono hB4.size)
        have e0 := ((stays hb5).1 _ _ hN4).trans c0
        have e1 := ((stays hb5).1 _ _ hN4).trans c1
        have hN5 : N < w5.heap.size := Nat.lt_of_lt_of_le hN4 hb5.size
        obtain ⟨a5, c5, rfl⟩ := hr5.slice
        clear hb5 hr5 hB4 c0 c1 hN4 H1 HZ1
        go_wp2_with fail
        refine (H2.out _ HZ2.out).mono ?_
        rintro e w6 ⟨v6, rfl, hr6, hb6⟩
        have hB6 := hB5.trans (hb6.mono hB5.size)
        have c0 := ((stays hb6).1 _ _ hN5).trans e0
        have c1 := ((stays hb6).1 _ _ hN5).trans e1
        have hN6 : N < w6.heap.size := Nat.lt_of_lt_of_le hN5 hb6.size
        obtain ⟨a6, c6, rfl⟩ := hr6.slice
        clear hb6 hr6 hB5 e0 e1 hN5 H2 HZ2
        go_wp2_with fail
        refine (alive_any _).mono ?_
        rintro e w7 ⟨rfl, hb7⟩
        have hB7 := hB6.trans (hb7.mono hB6.size)
        have e0 := ((stays hb7).1 _ _ hN6).trans c0
        have e1 := ((stays hb7).1 _ _ hN6).trans c1
        clear hb7 hB6 c0 c1 hN6
        have hun := HSN.out
        subst hun
        rcases HK1.out with rfl | ⟨h39, rfl⟩
        all_goals rcases HK2.out with rfl | ⟨h38, rfl⟩
        all_goals try have h39z : (3980 : Int) < (t.size : Int) := by omega
        all_goals go_wp2_with fail
        all_goals go_ret
        all_goals exact ⟨rfl, hB7⟩
      · have hdz : (d != 0) = true := by simpa using hd
        go_wp2_with fail
        refine (alive_any _).mono ?_
        rintro e w5 ⟨rfl, hb5⟩
        go_wp2_with fail
        go_ret
        exact ⟨rfl, hB4.trans (hb5.mono hB4.size)⟩
    · have hcz : (c != 0) = true := by simpa using hc
      go_wp2_with fail
      refine (alive_any _).mono ?_
      rintro e w5 ⟨rfl, hb5⟩
      go_wp2_with fail
      go_ret
      exact ⟨rfl, hB4.trans (hb5.mono hB4.size)⟩

end Go.Proofs.Yteeipaijdoneeaa
