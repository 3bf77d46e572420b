/- The walk of the document's own With. -/
import Derived.Test.YtplanlhgcckioaaDoorHa
namespace Go.Proofs.YtplanlhgcckioaaDoor
set_option linter.unusedVariables false
set_option linter.unusedSimpArgs false
set_option maxRecDepth 100000
open Go.RowKit

theorem rb_no {K Z : Int} (h : Z < 0 ∨ 20000 < Z ∨ K < 0 ∨ 3 < K) : rbB K Z = false := by
  unfold rbB
  rcases h with h | h | h | h
  · rw [decide_eq_false (show ¬ 0 ≤ Z by omega)]; simp
  · rw [decide_eq_false (show ¬ Z ≤ 20000 by omega)]; simp
  · rw [decide_eq_false (show ¬ 0 ≤ K by omega)]; simp
  · rw [decide_eq_false (show ¬ K ≤ 3 by omega)]; simp
theorem rb_yes {K Z : Int} (h1 : 0 ≤ Z) (h2 : Z ≤ 20000) (h3 : 0 ≤ K) (h4 : K ≤ 3) : rbB K Z = true := by
  unfold rbB
  rw [decide_eq_true h1, decide_eq_true h2, decide_eq_true h3, decide_eq_true h4]; rfl

set_option maxHeartbeats 8000000 in
theorem refwith_any (L : List Fd) (v : Value) (K Z : Int) (w : World) (hr : Row w v L) (hl : L.length ≤ 50) (hS : Sh L) :
    Calls Tryd.prog 7 #[v, .agg #[.int .i64 K, .int .i64 Z]] w fun en w' => ∃ r, en = .returned (.tuple #[r, .int .i64 (wiE L K Z : Nat)]) ∧ Own w' w.heap.size r (wiL L K Z) ∧ Below w.heap.size w w' := by
  have hB := one_alloc w #[.int .i64 K, .int .i64 Z] 24
  have hT := Tw.new w K Z
  have hR := hide (hr.below hB)
  have hrf := fun w h => refright_any L v w h (by omega) hS
  have hd1 : ∀ w0, Row w0 v L → Calls Tryd.prog 11 #[v, .string ⟨#[99, 111, 110, 116, 101, 110, 116, 45, 108, 101, 110, 103, 116, 104]⟩] w0 fun e w' => ∃ r, e = .returned r ∧ Own w' w0.heap.size r (delF lenS L) ∧ Below w0.heap.size w0 w' := fun w0 h => by rw [← del_cl]; exact refremove_any L v lenW w0 h (by omega) hS (by decide)
  have hd2 : ∀ u w0, Row w0 u (delF lenS L) → Calls Tryd.prog 11 #[u, .string ⟨#[116, 114, 97, 110, 115, 102, 101, 114, 45, 101, 110, 99, 111, 100, 105, 110, 103]⟩] w0 fun e w' => ∃ r, e = .returned r ∧ Own w' w0.heap.size r (dlF L) ∧ Below w0.heap.size w0 w' := fun u w0 h => by unfold dlF; rw [← del_te]; exact refremove_any (delF lenS L) u tecW w0 h (Nat.le_trans (del_le _ _) (by omega)) (del_short hS) (by decide)
  have ha1 : ∀ u t w0, t.size ≤ 10000 → Row w0 u (dlF L) → Calls Tryd.prog 21 #[u, .agg #[.string ⟨#[67, 111, 110, 116, 101, 110, 116, 45, 76, 101, 110, 103, 116, 104]⟩, .string t]] w0 fun e w' => ∃ r, e = .returned (.tuple #[r, .int .i64 (addE (dlF L) (lenS, t) : Nat)]) ∧ Own w' w0.heap.size r (addL (dlF L) (lenS, t)) ∧ Below w0.heap.size w0 w' := fun u t w0 h0 h => refadd_any (dlF L) u (lenS, t) w0 h (Nat.le_trans (dl_le L) (by omega)) (dl_short hS) (show lenS.size ≤ 10000 by decide) h0
  have ha2 : ∀ u w0, Row w0 u (dlF L) → Calls Tryd.prog 21 #[u, .agg #[.string ⟨#[84, 114, 97, 110, 115, 102, 101, 114, 45, 69, 110, 99, 111, 100, 105, 110, 103]⟩, .string ⟨#[99, 104, 117, 110, 107, 101, 100]⟩]] w0 fun e w' => ∃ r, e = .returned (.tuple #[r, .int .i64 (addE (dlF L) (tecS, chS) : Nat)]) ∧ Own w' w0.heap.size r (addL (dlF L) (tecS, chS)) ∧ Below w0.heap.size w0 w' := fun u w0 h => refadd_any (dlF L) u (tecS, chS) w0 h (Nat.le_trans (dl_le L) (by omega)) (dl_short hS) (by decide) (by decide)
  obtain ⟨aa, ca, rfl⟩ := hr.slice
  clear hr hS
  cases hf : rightF L
  · have HE := hide (wi_arg (L := L) (K := K) (Z := Z) (by rw [hf]; rfl))
    rw [hf] at hrf
    clear hf
    go_enter Tryd.func7, Tryd.ntmps7
    go_wp2_with fail
    generalize World.alloc _ _ = W1 at hT hB hR ⊢
    refine (hrf _ hR.out).mono ?_
    rintro en w1 ⟨rfl, hb1⟩
    have hT1 := hT.below hb1
    have hB1 := hB.trans (hb1.mono hB.size)
    have hR1 := hide (hR.out.below hb1)
    clear hT hB hR hb1
    obtain ⟨c0, c1, -, -⟩ := id hT1
    go_wp2_with fail
    go_ret2
    exact ⟨_, ret_row rfl (by rw [HE.out.1]; rfl), by rw [HE.out.2]; exact Own.nil _ _, hB1⟩
  · rw [hf] at hrf
    by_cases g1 : Z < 0
    · have HE := hide (wi_arg (L := L) (K := K) (Z := Z) (by rw [hf, rb_no (Or.inl g1)]; rfl))
      clear hf
      go_enter Tryd.func7, Tryd.ntmps7
      go_wp2_with fail
      generalize World.alloc _ _ = W1 at hT hB hR ⊢
      refine (hrf _ hR.out).mono ?_
      rintro en w1 ⟨rfl, hb1⟩
      have hT1 := hT.below hb1
      have hB1 := hB.trans (hb1.mono hB.size)
      have hR1 := hide (hR.out.below hb1)
      clear hT hB hR hb1
      obtain ⟨c0, c1, -, -⟩ := id hT1
      go_wp2_with fail
      go_ret2
      exact ⟨_, ret_row rfl (by rw [HE.out.1]; rfl), by rw [HE.out.2]; exact Own.nil _ _, hB1⟩
    · have g1d : decide (Z < 0) = false := decide_eq_false g1
      by_cases g2 : 20000 < Z
      · have HE := hide (wi_arg (L := L) (K := K) (Z := Z) (by rw [hf, rb_no (Or.inr (Or.inl g2))]; rfl))
        clear hf
        go_enter Tryd.func7, Tryd.ntmps7
        go_wp2_with fail
        generalize World.alloc _ _ = W1 at hT hB hR ⊢
        refine (hrf _ hR.out).mono ?_
        rintro en w1 ⟨rfl, hb1⟩
        have hT1 := hT.below hb1
        have hB1 := hB.trans (hb1.mono hB.size)
        have hR1 := hide (hR.out.below hb1)
        clear hT hB hR hb1
        obtain ⟨c0, c1, -, -⟩ := id hT1
        go_wp2_with fail
        go_ret2
        exact ⟨_, ret_row rfl (by rw [HE.out.1]; rfl), by rw [HE.out.2]; exact Own.nil _ _, hB1⟩
      · have g2d : decide (20000 < Z) = false := decide_eq_false g2
        by_cases g3 : K < 0
        · have HE := hide (wi_arg (L := L) (K := K) (Z := Z) (by rw [hf, rb_no (Or.inr (Or.inr (Or.inl g3)))]; rfl))
          clear hf
          go_enter Tryd.func7, Tryd.ntmps7
          go_wp2_with fail
          generalize World.alloc _ _ = W1 at hT hB hR ⊢
          refine (hrf _ hR.out).mono ?_
          rintro en w1 ⟨rfl, hb1⟩
          have hT1 := hT.below hb1
          have hB1 := hB.trans (hb1.mono hB.size)
          have hR1 := hide (hR.out.below hb1)
          clear hT hB hR hb1
          obtain ⟨c0, c1, -, -⟩ := id hT1
          go_wp2_with fail
          go_ret2
          exact ⟨_, ret_row rfl (by rw [HE.out.1]; rfl), by rw [HE.out.2]; exact Own.nil _ _, hB1⟩
        · have g3d : decide (K < 0) = false := decide_eq_false g3
          by_cases g4 : 3 < K
          · have HE := hide (wi_arg (L := L) (K := K) (Z := Z) (by rw [hf, rb_no (Or.inr (Or.inr (Or.inr g4)))]; rfl))
            clear hf
            go_enter Tryd.func7, Tryd.ntmps7
            go_wp2_with fail
            generalize World.alloc _ _ = W1 at hT hB hR ⊢
            refine (hrf _ hR.out).mono ?_
            rintro en w1 ⟨rfl, hb1⟩
            have hT1 := hT.below hb1
            have hB1 := hB.trans (hb1.mono hB.size)
            have hR1 := hide (hR.out.below hb1)
            clear hT hB hR hb1
            obtain ⟨c0, c1, -, -⟩ := id hT1
            go_wp2_with fail
            go_ret2
            exact ⟨_, ret_row rfl (by rw [HE.out.1]; rfl), by rw [HE.out.2]; exact Own.nil _ _, hB1⟩
          · have g4d : decide (3 < K) = false := decide_eq_false g4
            have hboth : (rightF L && rbB K Z) = true := by rw [hf, rb_yes (by omega) (by omega) (by omega) (by omega)]; rfl
            clear hf
            by_cases k1 : K = 1
            · have HE := hide (wi_one hboth k1)
              obtain ⟨z, rfl⟩ : ∃ z : Nat, Z = z := ⟨Z.toNat, by omega⟩
              have hz2 : z ≤ 20000 := by omega
              have hzw := u64_fits hz2
              have hzt : ((z : Int)).toNat = z := by omega
              rw [hzt] at HE
              have hsz := decS_le z (by omega)
              have hdig : ∀ w0, Calls Tryd.prog 22 #[.int .u64 (z : Int), .int .u64 10] w0 fun e w' => e = .returned (.string (decS z)) ∧ ∃ n, w' = w0.drewN n := fun w0 => refDigits10 z (by omega) w0
              clear hboth hzt
              subst k1
              go_enter Tryd.func7, Tryd.ntmps7
              go_wp2_with fail
              generalize World.alloc _ _ = W1 at hT hB hR ⊢
              refine (hrf _ hR.out).mono ?_
              rintro en w1 ⟨rfl, hb1⟩
              have hT1 := hT.below hb1
              have hB1 := hB.trans (hb1.mono hB.size)
              have hR1 := hide (hR.out.below hb1)
              clear hT hB hR hb1
              obtain ⟨c0, c1, -, -⟩ := id hT1
              go_wp2_with fail
              refine (hd1 _ hR1.out).mono ?_
              rintro en w3 ⟨u3, rfl, ho3, hb3⟩
              have hT3 := hT1.below hb3
              have hB3 := hB1.trans (hb3.mono hB1.size)
              have hR3 := hide ho3.row
              obtain ⟨a3, n3, rfl⟩ := ho3.row.slice
              clear hT1 hB1 hR1 hb3 ho3 c0 c1
              go_wp2_with fail
              refine (hd2 _ _ hR3.out).mono ?_
              rintro en w4 ⟨u4, rfl, ho4, hb4⟩
              have hT4 := hT3.below hb4
              have hB4 := hB3.trans (hb4.mono hB3.size)
              have hO4 := hide (ho4.mono hB3.size)
              have hR4 := hide ho4.row
              obtain ⟨a4, n4, rfl⟩ := ho4.row.slice
              obtain ⟨c0, c1, -, -⟩ := id hT4
              clear hT3 hB3 hR3 hb4 ho4
              go_wp2_with fail
              refine (hdig _).mono ?_
              rintro en w5 ⟨rfl, nd, rfl⟩
              have hb5 := below_drewM w4 nd
              have hB5 := hB4.trans (hb5.mono hB4.size)
              have hR5 := hide (hR4.out.below hb5)
              generalize w4.drewN nd = w5 at hB5 hR5 ⊢
              generalize decS z = t at HE hsz ⊢
              go_wp2_with fail
              refine (ha1 _ t _ (by omega) hR5.out).mono ?_
              rintro en w6 ⟨u6, rfl, ho6, hb6⟩
              have hB6 := hB5.trans (hb6.mono hB5.size)
              go_wp2_with fail
              go_ret2
              exact ⟨_, ret_row rfl (by rw [HE.out.1]), by rw [HE.out.2]; exact ho6.mono hB5.size, hB6⟩
            · have k1b : (K == 1) = false := by simpa using k1
              by_cases k2 : K = 2
              · have HE := hide (wi_two hboth k2)
                clear hboth
                subst k2
                go_enter Tryd.func7, Tryd.ntmps7
                go_wp2_with fail
                generalize World.alloc _ _ = W1 at hT hB hR ⊢
                refine (hrf _ hR.out).mono ?_
                rintro en w1 ⟨rfl, hb1⟩
                have hT1 := hT.below hb1
                have hB1 := hB.trans (hb1.mono hB.size)
                have hR1 := hide (hR.out.below hb1)
                clear hT hB hR hb1
                obtain ⟨c0, c1, -, -⟩ := id hT1
                go_wp2_with fail
                refine (hd1 _ hR1.out).mono ?_
                rintro en w3 ⟨u3, rfl, ho3, hb3⟩
                have hT3 := hT1.below hb3
                have hB3 := hB1.trans (hb3.mono hB1.size)
                have hR3 := hide ho3.row
                obtain ⟨a3, n3, rfl⟩ := ho3.row.slice
                clear hT1 hB1 hR1 hb3 ho3 c0 c1
                go_wp2_with fail
                refine (hd2 _ _ hR3.out).mono ?_
                rintro en w4 ⟨u4, rfl, ho4, hb4⟩
                have hT4 := hT3.below hb4
                have hB4 := hB3.trans (hb4.mono hB3.size)
                have hO4 := hide (ho4.mono hB3.size)
                have hR4 := hide ho4.row
                obtain ⟨a4, n4, rfl⟩ := ho4.row.slice
                obtain ⟨c0, c1, -, -⟩ := id hT4
                clear hT3 hB3 hR3 hb4 ho4
                go_wp2_with fail
                refine (ha2 _ _ hR4.out).mono ?_
                rintro en w6 ⟨u6, rfl, ho6, hb6⟩
                have hB6 := hB4.trans (hb6.mono hB4.size)
                go_wp2_with fail
                go_ret2
                exact ⟨_, ret_row rfl (by rw [HE.out.1]), by rw [HE.out.2]; exact ho6.mono hB4.size, hB6⟩
              · have HE := hide (wi_else hboth k1 k2)
                have k2b : (K == 2) = false := by simpa using k2
                clear hboth
                go_enter Tryd.func7, Tryd.ntmps7
                go_wp2_with fail
                generalize World.alloc _ _ = W1 at hT hB hR ⊢
                refine (hrf _ hR.out).mono ?_
                rintro en w1 ⟨rfl, hb1⟩
                have hT1 := hT.below hb1
                have hB1 := hB.trans (hb1.mono hB.size)
                have hR1 := hide (hR.out.below hb1)
                clear hT hB hR hb1
                obtain ⟨c0, c1, -, -⟩ := id hT1
                go_wp2_with fail
                refine (hd1 _ hR1.out).mono ?_
                rintro en w3 ⟨u3, rfl, ho3, hb3⟩
                have hT3 := hT1.below hb3
                have hB3 := hB1.trans (hb3.mono hB1.size)
                have hR3 := hide ho3.row
                obtain ⟨a3, n3, rfl⟩ := ho3.row.slice
                clear hT1 hB1 hR1 hb3 ho3 c0 c1
                go_wp2_with fail
                refine (hd2 _ _ hR3.out).mono ?_
                rintro en w4 ⟨u4, rfl, ho4, hb4⟩
                have hT4 := hT3.below hb4
                have hB4 := hB3.trans (hb4.mono hB3.size)
                have hO4 := hide (ho4.mono hB3.size)
                have hR4 := hide ho4.row
                obtain ⟨a4, n4, rfl⟩ := ho4.row.slice
                obtain ⟨c0, c1, -, -⟩ := id hT4
                clear hT3 hB3 hR3 hb4 ho4
                go_wp2_with fail
                go_ret2
                exact ⟨_, ret_row rfl (by rw [HE.out.1]; rfl), by rw [HE.out.2]; exact hO4.out, hB4⟩

end Go.Proofs.YtplanlhgcckioaaDoor
