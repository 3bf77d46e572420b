/- What With makes; its walk. The walk of the document's own With. What fields that were made to say so say, by plain reckoning. -/
import Derived.Test.YtmpijlaidnhpnaaGreatDoorJGf
import Derived.Test.YtmpijlaidnhpnaaGreatDoorJNe
namespace Go.Proofs.YtmpijlaidnhpnaaGreatDoor
set_option linter.unusedVariables false
set_option linter.unusedSimpArgs false
set_option maxRecDepth 100000
open Go.RowKit

/-- Whether a body may be; a row without both names; what With makes of a row. -/
def rbB (K Z : Int) : Bool := decide (0 ≤ Z) && decide (Z ≤ 20000) && decide (0 ≤ K) && decide (K ≤ 3)
def dlF (L : List Fd) : List Fd := delF tecS (delF lenS L)
def wiE (L : List Fd) (K Z : Int) : Nat := if rightF L && rbB K Z then (if K = 1 then addE (dlF L) (lenS, decS Z.toNat) else if K = 2 then addE (dlF L) (tecS, chS) else 0) else 1
def wiL (L : List Fd) (K Z : Int) : List Fd := if rightF L && rbB K Z then (if K = 1 then addL (dlF L) (lenS, decS Z.toNat) else if K = 2 then addL (dlF L) (tecS, chS) else dlF L) else []
theorem wi_arg {L : List Fd} {K Z : Int} (h : (rightF L && rbB K Z) = false) : wiE L K Z = 1 ∧ wiL L K Z = [] := by
  unfold wiE wiL; rw [h]; exact ⟨rfl, rfl⟩
theorem wi_one {L : List Fd} {K Z : Int} (h : (rightF L && rbB K Z) = true) (g : K = 1) : wiE L K Z = addE (dlF L) (lenS, decS Z.toNat) ∧ wiL L K Z = addL (dlF L) (lenS, decS Z.toNat) := by
  unfold wiE wiL; rw [h, if_pos rfl, if_pos rfl, if_pos g, if_pos g]; exact ⟨rfl, rfl⟩
theorem wi_two {L : List Fd} {K Z : Int} (h : (rightF L && rbB K Z) = true) (g : K = 2) : wiE L K Z = addE (dlF L) (tecS, chS) ∧ wiL L K Z = addL (dlF L) (tecS, chS) := by
  subst g
  unfold wiE wiL; rw [h]; exact ⟨rfl, rfl⟩
theorem wi_else {L : List Fd} {K Z : Int} (h : (rightF L && rbB K Z) = true) (g : K ≠ 1) (g2 : K ≠ 2) : wiE L K Z = 0 ∧ wiL L K Z = dlF L := by
  unfold wiE wiL; rw [h, if_pos rfl, if_pos rfl, if_neg g, if_neg g2, if_neg g, if_neg g2]; exact ⟨rfl, rfl⟩
theorem dl_le (L : List Fd) : (dlF L).length ≤ L.length := Nat.le_trans (del_le _ _) (del_le _ _)
theorem dl_short {L : List Fd} (h : Sh L) : Sh (dlF L) := del_short (del_short h)
theorem u64_fits {z : Nat} (h : z ≤ 20000) : IntKind.u64.wrap (z : Int) = z := by simp [IntKind.wrap, IntKind.bits, IntKind.signed]; omega

set_option maxHeartbeats 2000000 in
theorem rightBody_any (K Z : Int) (w : World) :
    Calls Tryz.prog 67 #[.agg #[.int .i64 K, .int .i64 Z]] w fun e w' => e = .returned (.bool (rbB K Z)) ∧ Below w.heap.size w w' := by
  have HV : Hid (rbB K Z = (decide (0 ≤ Z) && decide (Z ≤ 20000) && decide (0 ≤ K) && decide (K ≤ 3))) := rfl
  cases h1 : decide (0 ≤ Z)
  · rw [h1] at HV
    go_enter Tryz.func67, Tryz.ntmps67
    go_wp2_with fail
    go_ret
    exact ⟨ret_bool (by rw [HV.out]; simp), one_alloc _ _ _⟩
  · cases h2 : decide (Z ≤ 20000)
    · rw [h1, h2] at HV
      go_enter Tryz.func67, Tryz.ntmps67
      go_wp2_with fail
      go_ret
      exact ⟨ret_bool (by rw [HV.out]; simp), one_alloc _ _ _⟩
    · cases h3 : decide (0 ≤ K)
      · rw [h1, h2, h3] at HV
        go_enter Tryz.func67, Tryz.ntmps67
        go_wp2_with fail
        go_ret
        exact ⟨ret_bool (by rw [HV.out]; simp), one_alloc _ _ _⟩
      · cases h4 : decide (K ≤ 3)
        · rw [h1, h2, h3, h4] at HV
          go_enter Tryz.func67, Tryz.ntmps67
          go_wp2_with fail
          go_ret
          exact ⟨ret_bool (by rw [HV.out]; simp), one_alloc _ _ _⟩
        · rw [h1, h2, h3, h4] at HV
          go_enter Tryz.func67, Tryz.ntmps67
          go_wp2_with fail
          go_ret
          exact ⟨ret_bool (by rw [HV.out]; simp), one_alloc _ _ _⟩

set_option maxHeartbeats 8000000 in
theorem with_any (L : List Fd) (v : Value) (K Z : Int) (w : World) (hr : Row w v L) (hl : L.length ≤ 50) (hS : Sh L) (ht : Tabs w) :
    Calls Tryz.prog 41 #[v, .agg #[.int .i64 K, .int .i64 Z]] w fun en w' => ∃ r, en = .returned (.tuple #[r, .int .i64 (wiE L K Z : Nat)]) ∧ Own w' w.heap.size r (wiL L K Z) ∧ Below w.heap.size w w' := by
  have hB := one_alloc w #[.int .i64 K, .int .i64 Z] 35
  have hT := Tw.new w K Z
  have hR := hide (hr.below hB)
  have hTb := ht.below hB
  have hrf := fun w h => right_any L v w h (by omega) hS
  have hrb := fun w => rightBody_any K Z w
  have hd1 : ∀ w0, Row w0 v L → Calls Tryz.prog 68 #[v, .string ⟨#[67, 111, 110, 116, 101, 110, 116, 45, 76, 101, 110, 103, 116, 104]⟩] w0 fun e w' => ∃ r, e = .returned r ∧ Own w' w0.heap.size r (delF lenS L) ∧ Below w0.heap.size w0 w' := fun w0 h => remove_any L v lenS w0 h (by omega) hS (by decide)
  have hd2 : ∀ u w0, Row w0 u (delF lenS L) → Calls Tryz.prog 68 #[u, .string ⟨#[84, 114, 97, 110, 115, 102, 101, 114, 45, 69, 110, 99, 111, 100, 105, 110, 103]⟩] w0 fun e w' => ∃ r, e = .returned r ∧ Own w' w0.heap.size r (dlF L) ∧ Below w0.heap.size w0 w' := fun u w0 h => remove_any (delF lenS L) u tecS w0 h (Nat.le_trans (del_le _ _) (by omega)) (del_short hS) (by decide)
  have ha1 : ∀ u t w0, t.size ≤ 10000 → Row w0 u (dlF L) → Calls Tryz.prog 69 #[u, .string ⟨#[67, 111, 110, 116, 101, 110, 116, 45, 76, 101, 110, 103, 116, 104]⟩, .string t] w0 fun e w' => ∃ r, e = .returned (.tuple #[r, .int .i64 (addE (dlF L) (lenS, t) : Nat)]) ∧ Own w' w0.heap.size r (addL (dlF L) (lenS, t)) ∧ Below w0.heap.size w0 w' := fun u t w0 h0 h => add_any (dlF L) u (lenS, t) w0 h (Nat.le_trans (dl_le L) (by omega)) (dl_short hS) (show lenS.size ≤ 10000 by decide) h0
  have ha2 : ∀ u w0, Row w0 u (dlF L) → Calls Tryz.prog 69 #[u, .string ⟨#[84, 114, 97, 110, 115, 102, 101, 114, 45, 69, 110, 99, 111, 100, 105, 110, 103]⟩, .string ⟨#[99, 104, 117, 110, 107, 101, 100]⟩] w0 fun e w' => ∃ r, e = .returned (.tuple #[r, .int .i64 (addE (dlF L) (tecS, chS) : Nat)]) ∧ Own w' w0.heap.size r (addL (dlF L) (tecS, chS)) ∧ Below w0.heap.size w0 w' := fun u w0 h => add_any (dlF L) u (tecS, chS) w0 h (Nat.le_trans (dl_le L) (by omega)) (dl_short hS) (by decide) (by decide)
  obtain ⟨aa, ca, rfl⟩ := hr.slice
  clear hr hS
  cases hf : rightF L
  · have HE := hide (wi_arg (L := L) (K := K) (Z := Z) (by rw [hf]; rfl))
    rw [hf] at hrf
    clear hf
    go_enter Tryz.func41, Tryz.ntmps41
    go_wp2_with fail
    generalize World.alloc _ _ = W1 at hT hB hR hTb ⊢
    refine (hrf _ hR.out).mono ?_
    rintro en w1 ⟨rfl, hb1⟩
    have hT1 := hT.below hb1
    have hB1 := hB.trans (hb1.mono hB.size)
    have hR1 := hide (hR.out.below hb1)
    have hTb1 := hTb.below hb1
    clear hT hB hR hTb hb1
    go_wp2_with fail
    go_ret2
    exact ⟨_, ret_row rfl (by rw [HE.out.1]; rfl), by rw [HE.out.2]; exact Own.nil _ _, hB1⟩
  · rw [hf] at hrf
    cases hb : rbB K Z
    · have HE := hide (wi_arg (L := L) (K := K) (Z := Z) (by rw [hf, hb]; rfl))
      rw [hb] at hrb
      clear hf hb
      go_enter Tryz.func41, Tryz.ntmps41
      go_wp2_with fail
      generalize World.alloc _ _ = W1 at hT hB hR hTb ⊢
      refine (hrf _ hR.out).mono ?_
      rintro en w1 ⟨rfl, hb1⟩
      have hT1 := hT.below hb1
      have hB1 := hB.trans (hb1.mono hB.size)
      have hR1 := hide (hR.out.below hb1)
      have hTb1 := hTb.below hb1
      clear hT hB hR hTb hb1
      obtain ⟨c0, c1, -, -⟩ := id hT1
      go_wp2_with fail
      refine (hrb _).mono ?_
      rintro en w2 ⟨rfl, hb2⟩
      have hT2 := hT1.below hb2
      have hB2 := hB1.trans (hb2.mono hB1.size)
      have hR2 := hide (hR1.out.below hb2)
      have hTb2 := hTb1.below hb2
      clear hT1 hB1 hR1 hTb1 hb2 c0 c1
      go_wp2_with fail
      go_ret2
      exact ⟨_, ret_row rfl (by rw [HE.out.1]; rfl), by rw [HE.out.2]; exact Own.nil _ _, hB2⟩
    · rw [hb] at hrb
      have hboth : (rightF L && rbB K Z) = true := by rw [hf, hb]; rfl
      have hz : 0 ≤ Z ∧ Z ≤ 20000 := by
        unfold rbB at hb
        simp at hb
        exact ⟨hb.1.1.1, hb.1.1.2⟩
      clear hf hb
      by_cases k1 : K = 1
      · have HE := hide (wi_one hboth k1)
        obtain ⟨z, rfl⟩ : ∃ z : Nat, Z = z := ⟨Z.toNat, by omega⟩
        have hz2 : z ≤ 20000 := by omega
        have hzw := u64_fits hz2
        have hzt : ((z : Int)).toNat = z := by omega
        rw [hzt] at HE
        have hsz := decS_le z (by omega)
        clear hboth hz hzt
        subst k1
        go_enter Tryz.func41, Tryz.ntmps41
        go_wp2_with fail
        generalize World.alloc _ _ = W1 at hT hB hR hTb ⊢
        refine (hrf _ hR.out).mono ?_
        rintro en w1 ⟨rfl, hb1⟩
        have hT1 := hT.below hb1
        have hB1 := hB.trans (hb1.mono hB.size)
        have hR1 := hide (hR.out.below hb1)
        have hTb1 := hTb.below hb1
        clear hT hB hR hTb hb1
        obtain ⟨c0, c1, -, -⟩ := id hT1
        go_wp2_with fail
        refine (hrb _).mono ?_
        rintro en w2 ⟨rfl, hb2⟩
        have hT2 := hT1.below hb2
        have hB2 := hB1.trans (hb2.mono hB1.size)
        have hR2 := hide (hR1.out.below hb2)
        have hTb2 := hTb1.below hb2
        clear hT1 hB1 hR1 hTb1 hb2 c0 c1
        go_wp2_with fail
        refine (hd1 _ hR2.out).mono ?_
        rintro en w3 ⟨u3, rfl, ho3, hb3⟩
        have hT3 := hT2.below hb3
        have hB3 := hB2.trans (hb3.mono hB2.size)
        have hTb3 := hTb2.below hb3
        have hR3 := hide ho3.row
        obtain ⟨a3, n3, rfl⟩ := ho3.row.slice
        clear hT2 hB2 hR2 hTb2 hb3 ho3
        go_wp2_with fail
        refine (hd2 _ _ hR3.out).mono ?_
        rintro en w4 ⟨u4, rfl, ho4, hb4⟩
        have hT4 := hT3.below hb4
        have hB4 := hB3.trans (hb4.mono hB3.size)
        have hTb4 := hTb3.below hb4
        have hO4 := hide (ho4.mono hB3.size)
        have hR4 := hide ho4.row
        obtain ⟨a4, n4, rfl⟩ := ho4.row.slice
        obtain ⟨c0, c1, -, -⟩ := id hT4
        clear hT3 hB3 hR3 hTb3 hb4 ho4
        go_wp2_with fail
        refine (dec_any z (by omega) _ hTb4).mono ?_
        rintro en w5 ⟨rfl, hb5⟩
        have hB5 := hB4.trans (hb5.mono hB4.size)
        have hR5 := hide (hR4.out.below hb5)
        generalize decS z = t at HE hsz ⊢
        go_wp2_with fail
        refine (ha1 _ t _ (by omega) hR5.out).mono ?_
        rintro en w6 ⟨u6, rfl, ho6, hb6⟩
        have hB6 := hB5.trans (hb6.mono hB5.size)
        go_wp2_with fail
        go_ret2
        exact ⟨_, ret_row rfl (by rw [HE.out.1]), by rw [HE.out.2]; exact ho6.mono hB5.size, hB6⟩
      · have k1b : (K == 1) = false := by simpa using k1
        by_cases k2 : K = 2
        · have HE := hide (wi_two hboth k2)
          clear hboth
          subst k2
          go_enter Tryz.func41, Tryz.ntmps41
          go_wp2_with fail
          generalize World.alloc _ _ = W1 at hT hB hR hTb ⊢
          refine (hrf _ hR.out).mono ?_
          rintro en w1 ⟨rfl, hb1⟩
          have hT1 := hT.below hb1
          have hB1 := hB.trans (hb1.mono hB.size)
          have hR1 := hide (hR.out.below hb1)
          have hTb1 := hTb.below hb1
          clear hT hB hR hTb hb1
          obtain ⟨c0, c1, -, -⟩ := id hT1
          go_wp2_with fail
          refine (hrb _).mono ?_
          rintro en w2 ⟨rfl, hb2⟩
          have hT2 := hT1.below hb2
          have hB2 := hB1.trans (hb2.mono hB1.size)
          have hR2 := hide (hR1.out.below hb2)
          have hTb2 := hTb1.below hb2
          clear hT1 hB1 hR1 hTb1 hb2 c0 c1
          go_wp2_with fail
          refine (hd1 _ hR2.out).mono ?_
          rintro en w3 ⟨u3, rfl, ho3, hb3⟩
          have hT3 := hT2.below hb3
          have hB3 := hB2.trans (hb3.mono hB2.size)
          have hTb3 := hTb2.below hb3
          have hR3 := hide ho3.row
          obtain ⟨a3, n3, rfl⟩ := ho3.row.slice
          clear hT2 hB2 hR2 hTb2 hb3 ho3
          go_wp2_with fail
          refine (hd2 _ _ hR3.out).mono ?_
          rintro en w4 ⟨u4, rfl, ho4, hb4⟩
          have hT4 := hT3.below hb4
          have hB4 := hB3.trans (hb4.mono hB3.size)
          have hTb4 := hTb3.below hb4
          have hO4 := hide (ho4.mono hB3.size)
          have hR4 := hide ho4.row
          obtain ⟨a4, n4, rfl⟩ := ho4.row.slice
          obtain ⟨c0, c1, -, -⟩ := id hT4
          clear hT3 hB3 hR3 hTb3 hb4 ho4
          go_wp2_with fail
          refine (ha2 _ _ hR4.out).mono ?_
          rintro en w6 ⟨u6, rfl, ho6, hb6⟩
          have hB6 := hB4.trans (hb6.mono hB4.size)
          go_wp2_with fail
          go_ret2
          exact ⟨_, ret_row rfl (by rw [HE.out.1]), by rw [HE.out.2]; exact ho6.mono hB4.size, hB6⟩
        · have HE := hide (wi_else hboth k1 k2)
          have k2b : (K == 2) = false := by simpa using k2
          clear hboth
          go_enter Tryz.func41, Tryz.ntmps41
          go_wp2_with fail
          generalize World.alloc _ _ = W1 at hT hB hR hTb ⊢
          refine (hrf _ hR.out).mono ?_
          rintro en w1 ⟨rfl, hb1⟩
          have hT1 := hT.below hb1
          have hB1 := hB.trans (hb1.mono hB.size)
          have hR1 := hide (hR.out.below hb1)
          have hTb1 := hTb.below hb1
          clear hT hB hR hTb hb1
          obtain ⟨c0, c1, -, -⟩ := id hT1
          go_wp2_with fail
          refine (hrb _).mono ?_
          rintro en w2 ⟨rfl, hb2⟩
          have hT2 := hT1.below hb2
          have hB2 := hB1.trans (hb2.mono hB1.size)
          have hR2 := hide (hR1.out.below hb2)
          have hTb2 := hTb1.below hb2
          clear hT1 hB1 hR1 hTb1 hb2 c0 c1
          go_wp2_with fail
          refine (hd1 _ hR2.out).mono ?_
          rintro en w3 ⟨u3, rfl, ho3, hb3⟩
          have hT3 := hT2.below hb3
          have hB3 := hB2.trans (hb3.mono hB2.size)
          have hTb3 := hTb2.below hb3
          have hR3 := hide ho3.row
          obtain ⟨a3, n3, rfl⟩ := ho3.row.slice
          clear hT2 hB2 hR2 hTb2 hb3 ho3
          go_wp2_with fail
          refine (hd2 _ _ hR3.out).mono ?_
          rintro en w4 ⟨u4, rfl, ho4, hb4⟩
          have hT4 := hT3.below hb4
          have hB4 := hB3.trans (hb4.mono hB3.size)
          have hTb4 := hTb3.below hb4
          have hO4 := hide (ho4.mono hB3.size)
          have hR4 := hide ho4.row
          obtain ⟨a4, n4, rfl⟩ := ho4.row.slice
          obtain ⟨c0, c1, -, -⟩ := id hT4
          clear hT3 hB3 hR3 hTb3 hb4 ho4
          go_wp2_with fail
          go_ret2
          exact ⟨_, ret_row rfl (by rw [HE.out.1]; rfl), by rw [HE.out.2]; exact hO4.out, hB4⟩

end Go.Proofs.YtmpijlaidnhpnaaGreatDoor

namespace Go.Proofs.YtmpijlaidnhpnaaGreatDoor
set_option linter.unusedVariables false
set_option linter.unusedSimpArgs false
set_option maxRecDepth 100000
open Go.RowKit

theorem rb_no {K Z : Int} (h : Z < 0 ∨ 20000 < Z ∨ K < 0 ∨ 3 < K) : rbB K Z = false := by
  unfold rbB
  rcases h with h | h | h | h
  · rw [decide_eq_false (show ¬ 0 ≤ Z by omega)]; simp
  · rw [decide_eq_false (show ¬ Z ≤ 20000 by omega)]; simp
  · rw [decide_eq_false (show ¬ 0 ≤ K by omega)]; simp
  · rw [decide_eq_false (show ¬ K ≤ 3 by omega)]; simp
theorem rb_yes {K Z : Int} (h1 : 0 ≤ Z) (h2 : Z ≤ 20000) (h3 : 0 ≤ K) (h4 : K ≤ 3) : rbB K Z = true := by
  unfold rbB
  rw [decide_eq_true h1, decide_eq_true h2, decide_eq_true h3, decide_eq_true h4]; rfl

set_option maxHeartbeats 8000000 in
theorem refwith_any (L : List Fd) (v : Value) (K Z : Int) (w : World) (hr : Row w v L) (hl : L.length ≤ 50) (hS : Sh L) :
    Calls Tryz.prog 27 #[v, .agg #[.int .i64 K, .int .i64 Z]] w fun en w' => ∃ r, en = .returned (.tuple #[r, .int .i64 (wiE L K Z : Nat)]) ∧ Own w' w.heap.size r (wiL L K Z) ∧ Below w.heap.size w w' := by
  have hB := one_alloc w #[.int .i64 K, .int .i64 Z] 35
  have hT := Tw.new w K Z
  have hR := hide (hr.below hB)
  have hrf := fun w h => refright_any L v w h (by omega) hS
  have hd1 : ∀ w0, Row w0 v L → Calls Tryz.prog 15 #[v, .string ⟨#[99, 111, 110, 116, 101, 110, 116, 45, 108, 101, 110, 103, 116, 104]⟩] w0 fun e w' => ∃ r, e = .returned r ∧ Own w' w0.heap.size r (delF lenS L) ∧ Below w0.heap.size w0 w' := fun w0 h => by rw [← del_cl]; exact refremove_any L v lenW w0 h (by omega) hS (by decide)
  have hd2 : ∀ u w0, Row w0 u (delF lenS L) → Calls Tryz.prog 15 #[u, .string ⟨#[116, 114, 97, 110, 115, 102, 101, 114, 45, 101, 110, 99, 111, 100, 105, 110, 103]⟩] w0 fun e w' => ∃ r, e = .returned r ∧ Own w' w0.heap.size r (dlF L) ∧ Below w0.heap.size w0 w' := fun u w0 h => by unfold dlF; rw [← del_te]; exact refremove_any (delF lenS L) u tecW w0 h (Nat.le_trans (del_le _ _) (by omega)) (del_short hS) (by decide)
  have ha1 : ∀ u t w0, t.size ≤ 10000 → Row w0 u (dlF L) → Calls Tryz.prog 49 #[u, .agg #[.string ⟨#[67, 111, 110, 116, 101, 110, 116, 45, 76, 101, 110, 103, 116, 104]⟩, .string t]] w0 fun e w' => ∃ r, e = .returned (.tuple #[r, .int .i64 (addE (dlF L) (lenS, t) : Nat)]) ∧ Own w' w0.heap.size r (addL (dlF L) (lenS, t)) ∧ Below w0.heap.size w0 w' := fun u t w0 h0 h => refadd_any (dlF L) u (lenS, t) w0 h (Nat.le_trans (dl_le L) (by omega)) (dl_short hS) (show lenS.size ≤ 10000 by decide) h0
  have ha2 : ∀ u w0, Row w0 u (dlF L) → Calls Tryz.prog 49 #[u, .agg #[.string ⟨#[84, 114, 97, 110, 115, 102, 101, 114, 45, 69, 110, 99, 111, 100, 105, 110, 103]⟩, .string ⟨#[99, 104, 117, 110, 107, 101, 100]⟩]] w0 fun e w' => ∃ r, e = .returned (.tuple #[r, .int .i64 (addE (dlF L) (tecS, chS) : Nat)]) ∧ Own w' w0.heap.size r (addL (dlF L) (tecS, chS)) ∧ Below w0.heap.size w0 w' := fun u w0 h => refadd_any (dlF L) u (tecS, chS) w0 h (Nat.le_trans (dl_le L) (by omega)) (dl_short hS) (by decide) (by decide)
  obtain ⟨aa, ca, rfl⟩ := hr.slice
  clear hr hS
  cases hf : rightF L
  · have HE := hide (wi_arg (L := L) (K := K) (Z := Z) (by rw [hf]; rfl))
    rw [hf] at hrf
    clear hf
    go_enter Tryz.func27, Tryz.ntmps27
    go_wp2_with fail
    generalize World.alloc _ _ = W1 at hT hB hR ⊢
    refine (hrf _ hR.out).mono ?_
    rintro en w1 ⟨rfl, hb1⟩
    have hT1 := hT.below hb1
    have hB1 := hB.trans (hb1.mono hB.size)
    have hR1 := hide (hR.out.below hb1)
    clear hT hB hR hb1
    obtain ⟨c0, c1, -, -⟩ := id hT1
    go_wp2_with fail
    go_ret2
    exact ⟨_, ret_row rfl (by rw [HE.out.1]; rfl), by rw [HE.out.2]; exact Own.nil _ _, hB1⟩
  · rw [hf] at hrf
    by_cases g1 : Z < 0
    · have HE := hide (wi_arg (L := L) (K := K) (Z := Z) (by rw [hf, rb_no (Or.inl g1)]; rfl))
      clear hf
      go_enter Tryz.func27, Tryz.ntmps27
      go_wp2_with fail
      generalize World.alloc _ _ = W1 at hT hB hR ⊢
      refine (hrf _ hR.out).mono ?_
      rintro en w1 ⟨rfl, hb1⟩
      have hT1 := hT.below hb1
      have hB1 := hB.trans (hb1.mono hB.size)
      have hR1 := hide (hR.out.below hb1)
      clear hT hB hR hb1
      obtain ⟨c0, c1, -, -⟩ := id hT1
      go_wp2_with fail
      go_ret2
      exact ⟨_, ret_row rfl (by rw [HE.out.1]; rfl), by rw [HE.out.2]; exact Own.nil _ _, hB1⟩
    · have g1d : decide (Z < 0) = false := decide_eq_false g1
      by_cases g2 : 20000 < Z
      · have HE := hide (wi_arg (L := L) (K := K) (Z := Z) (by rw [hf, rb_no (Or.inr (Or.inl g2))]; rfl))
        clear hf
        go_enter Tryz.func27, Tryz.ntmps27
        go_wp2_with fail
        generalize World.alloc _ _ = W1 at hT hB hR ⊢
        refine (hrf _ hR.out).mono ?_
        rintro en w1 ⟨rfl, hb1⟩
        have hT1 := hT.below hb1
        have hB1 := hB.trans (hb1.mono hB.size)
        have hR1 := hide (hR.out.below hb1)
        clear hT hB hR hb1
        obtain ⟨c0, c1, -, -⟩ := id hT1
        go_wp2_with fail
        go_ret2
        exact ⟨_, ret_row rfl (by rw [HE.out.1]; rfl), by rw [HE.out.2]; exact Own.nil _ _, hB1⟩
      · have g2d : decide (20000 < Z) = false := decide_eq_false g2
        by_cases g3 : K < 0
        · have HE := hide (wi_arg (L := L) (K := K) (Z := Z) (by rw [hf, rb_no (Or.inr (Or.inr (Or.inl g3)))]; rfl))
          clear hf
          go_enter Tryz.func27, Tryz.ntmps27
          go_wp2_with fail
          generalize World.alloc _ _ = W1 at hT hB hR ⊢
          refine (hrf _ hR.out).mono ?_
          rintro en w1 ⟨rfl, hb1⟩
          have hT1 := hT.below hb1
          have hB1 := hB.trans (hb1.mono hB.size)
          have hR1 := hide (hR.out.below hb1)
          clear hT hB hR hb1
          obtain ⟨c0, c1, -, -⟩ := id hT1
          go_wp2_with fail
          go_ret2
          exact ⟨_, ret_row rfl (by rw [HE.out.1]; rfl), by rw [HE.out.2]; exact Own.nil _ _, hB1⟩
        · have g3d : decide (K < 0) = false := decide_eq_false g3
          by_cases g4 : 3 < K
          · have HE := hide (wi_arg (L := L) (K := K) (Z := Z) (by rw [hf, rb_no (Or.inr (Or.inr (Or.inr g4)))]; rfl))
            clear hf
            go_enter Tryz.func27, Tryz.ntmps27
            go_wp2_with fail
            generalize World.alloc _ _ = W1 at hT hB hR ⊢
            refine (hrf _ hR.out).mono ?_
            rintro en w1 ⟨rfl, hb1⟩
            have hT1 := hT.below hb1
            have hB1 := hB.trans (hb1.mono hB.size)
            have hR1 := hide (hR.out.below hb1)
            clear hT hB hR hb1
            obtain ⟨c0, c1, -, -⟩ := id hT1
            go_wp2_with fail
            go_ret2
            exact ⟨_, ret_row rfl (by rw [HE.out.1]; rfl), by rw [HE.out.2]; exact Own.nil _ _, hB1⟩
          · have g4d : decide (3 < K) = false := decide_eq_false g4
            have hboth : (rightF L && rbB K Z) = true := by rw [hf, rb_yes (by omega) (by omega) (by omega) (by omega)]; rfl
            clear hf
            by_cases k1 : K = 1
            · have HE := hide (wi_one hboth k1)
              obtain ⟨z, rfl⟩ : ∃ z : Nat, Z = z := ⟨Z.toNat, by omega⟩
              have hz2 : z ≤ 20000 := by omega
              have hzw := u64_fits hz2
              have hzt : ((z : Int)).toNat = z := by omega
              rw [hzt] at HE
              have hsz := decS_le z (by omega)
              have hdig : ∀ w0, Calls Tryz.prog 48 #[.int .u64 (z : Int), .int .u64 10] w0 fun e w' => e = .returned (.string (decS z)) ∧ ∃ n, w' = w0.drewN n := fun w0 => refDigits10 z (by omega) w0
              clear hboth hzt
              subst k1
              go_enter Tryz.func27, Tryz.ntmps27
              go_wp2_with fail
              generalize World.alloc _ _ = W1 at hT hB hR ⊢
              refine (hrf _ hR.out).mono ?_
              rintro en w1 ⟨rfl, hb1⟩
              have hT1 := hT.below hb1
              have hB1 := hB.trans (hb1.mono hB.size)
              have hR1 := hide (hR.out.below hb1)
              clear hT hB hR hb1
              obtain ⟨c0, c1, -, -⟩ := id hT1
              go_wp2_with fail
              refine (hd1 _ hR1.out).mono ?_
              rintro en w3 ⟨u3, rfl, ho3, hb3⟩
              have hT3 := hT1.below hb3
              have hB3 := hB1.trans (hb3.mono hB1.size)
              have hR3 := hide ho3.row
              obtain ⟨a3, n3, rfl⟩ := ho3.row.slice
              clear hT1 hB1 hR1 hb3 ho3 c0 c1
              go_wp2_with fail
              refine (hd2 _ _ hR3.out).mono ?_
              rintro en w4 ⟨u4, rfl, ho4, hb4⟩
              have hT4 := hT3.below hb4
              have hB4 := hB3.trans (hb4.mono hB3.size)
              have hO4 := hide (ho4.mono hB3.size)
              have hR4 := hide ho4.row
              obtain ⟨a4, n4, rfl⟩ := ho4.row.slice
              obtain ⟨c0, c1, -, -⟩ := id hT4
              clear hT3 hB3 hR3 hb4 ho4
              go_wp2_with fail
              refine (hdig _).mono ?_
              rintro en w5 ⟨rfl, nd, rfl⟩
              have hb5 := below_drewM w4 nd
              have hB5 := hB4.trans (hb5.mono hB4.size)
              have hR5 := hide (hR4.out.below hb5)
              generalize w4.drewN nd = w5 at hB5 hR5 ⊢
              generalize decS z = t at HE hsz ⊢
              go_wp2_with fail
              refine (ha1 _ t _ (by omega) hR5.out).mono ?_
              rintro en w6 ⟨u6, rfl, ho6, hb6⟩
              have hB6 := hB5.trans (hb6.mono hB5.size)
              go_wp2_with fail
              go_ret2
              exact ⟨_, ret_row rfl (by rw [HE.out.1]), by rw [HE.out.2]; exact ho6.mono hB5.size, hB6⟩
            · have k1b : (K == 1) = false := by simpa using k1
              by_cases k2 : K = 2
              · have HE := hide (wi_two hboth k2)
                clear hboth
                subst k2
                go_enter Tryz.func27, Tryz.ntmps27
                go_wp2_with fail
                generalize World.alloc _ _ = W1 at hT hB hR ⊢
                refine (hrf _ hR.out).mono ?_
                rintro en w1 ⟨rfl, hb1⟩
                have hT1 := hT.below hb1
                have hB1 := hB.trans (hb1.mono hB.size)
                have hR1 := hide (hR.out.below hb1)
                clear hT hB hR hb1
                obtain ⟨c0, c1, -, -⟩ := id hT1
                go_wp2_with fail
                refine (hd1 _ hR1.out).mono ?_
                rintro en w3 ⟨u3, rfl, ho3, hb3⟩
                have hT3 := hT1.below hb3
                have hB3 := hB1.trans (hb3.mono hB1.size)
                have hR3 := hide ho3.row
                obtain ⟨a3, n3, rfl⟩ := ho3.row.slice
                clear hT1 hB1 hR1 hb3 ho3 c0 c1
                go_wp2_with fail
                refine (hd2 _ _ hR3.out).mono ?_
                rintro en w4 ⟨u4, rfl, ho4, hb4⟩
                have hT4 := hT3.below hb4
                have hB4 := hB3.trans (hb4.mono hB3.size)
                have hO4 := hide (ho4.mono hB3.size)
                have hR4 := hide ho4.row
                obtain ⟨a4, n4, rfl⟩ := ho4.row.slice
                obtain ⟨c0, c1, -, -⟩ := id hT4
                clear hT3 hB3 hR3 hb4 ho4
                go_wp2_with fail
                refine (ha2 _ _ hR4.out).mono ?_
                rintro en w6 ⟨u6, rfl, ho6, hb6⟩
                have hB6 := hB4.trans (hb6.mono hB4.size)
                go_wp2_with fail
                go_ret2
                exact ⟨_, ret_row rfl (by rw [HE.out.1]), by rw [HE.out.2]; exact ho6.mono hB4.size, hB6⟩
              · have HE := hide (wi_else hboth k1 k2)
                have k2b : (K == 2) = false := by simpa using k2
                clear hboth
                go_enter Tryz.func27, Tryz.ntmps27
                go_wp2_with fail
                generalize World.alloc _ _ = W1 at hT hB hR ⊢
                refine (hrf _ hR.out).mono ?_
                rintro en w1 ⟨rfl, hb1⟩
                have hT1 := hT.below hb1
                have hB1 := hB.trans (hb1.mono hB.size)
                have hR1 := hide (hR.out.below hb1)
                clear hT hB hR hb1
                obtain ⟨c0, c1, -, -⟩ := id hT1
                go_wp2_with fail
                refine (hd1 _ hR1.out).mono ?_
                rintro en w3 ⟨u3, rfl, ho3, hb3⟩
                have hT3 := hT1.below hb3
                have hB3 := hB1.trans (hb3.mono hB1.size)
                have hR3 := hide ho3.row
                obtain ⟨a3, n3, rfl⟩ := ho3.row.slice
                clear hT1 hB1 hR1 hb3 ho3 c0 c1
                go_wp2_with fail
                refine (hd2 _ _ hR3.out).mono ?_
                rintro en w4 ⟨u4, rfl, ho4, hb4⟩
                have hT4 := hT3.below hb4
                have hB4 := hB3.trans (hb4.mono hB3.size)
                have hO4 := hide (ho4.mono hB3.size)
                have hR4 := hide ho4.row
                obtain ⟨a4, n4, rfl⟩ := ho4.row.slice
                obtain ⟨c0, c1, -, -⟩ := id hT4
                clear hT3 hB3 hR3 hb4 ho4
                go_wp2_with fail
                go_ret2
                exact ⟨_, ret_row rfl (by rw [HE.out.1]; rfl), by rw [HE.out.2]; exact hO4.out, hB4⟩

end Go.Proofs.YtmpijlaidnhpnaaGreatDoor

namespace Go.Proofs.YtmpijlaidnhpnaaGreatDoor
set_option linter.unusedVariables false
set_option linter.unusedSimpArgs false
set_option maxRecDepth 100000
open Go.RowKit

theorem add_zero {L : List Fd} {f : Fd} (h : addE L f = 0) : rightF L = true ∧ mayF f = true ∧ L.length ≠ 40 ∧ addL L f = L ++ [f] := by
  cases hb : (rightF L && mayF f)
  · rw [(add_arg hb).1] at h; exact absurd h (by decide)
  · by_cases h4 : L.length = 40
    · rw [(add_many hb h4).1] at h; exact absurd h (by decide)
    · rw [Bool.and_eq_true] at hb
      exact ⟨hb.1, hb.2, h4, (add_okay (by rw [hb.1, hb.2]; rfl) h4).2⟩
theorem add_bad {L : List Fd} {f : Fd} (h : addE L f ≠ 0) : addL L f = [] := by
  cases hb : (rightF L && mayF f)
  · exact (add_arg hb).2
  · by_cases h4 : L.length = 40
    · exact (add_many hb h4).2
    · exact absurd (add_okay hb h4).1 h
theorem right_add {L : List Fd} {f : Fd} (h1 : rightF L = true) (h2 : mayF f = true) (h3 : L.length ≠ 40) : rightF (L ++ [f]) = true := by
  have h4 := small_le h1
  unfold rightF at h1 ⊢
  rw [Bool.and_eq_true] at h1
  rw [List.all_append, h1.2, List.length_append]
  simp [h2]
  omega
theorem del_right {L : List Fd} (n : ByteArray) (h : rightF L = true) : rightF (delF n L) = true := by
  have h4 := small_le h
  unfold rightF at h ⊢
  rw [Bool.and_eq_true] at h ⊢
  refine ⟨decide_eq_true (Nat.le_trans (del_le _ _) h4), List.all_eq_true.2 fun f hf => List.all_eq_true.1 h.2 f (List.mem_filter.1 hf).1⟩
theorem dl_right {L : List Fd} (h : rightF L = true) : rightF (dlF L) = true := del_right _ (del_right _ h)

/- Names in a row without them. -/
theorem dl_len (L : List Fd) : ∀ f ∈ dlF L, nm lenS f = false ∧ nm tecS f = false := by
  intro f hf
  unfold dlF delF at hf
  have h1 := List.mem_filter.1 hf
  have h2 := List.mem_filter.1 h1.1
  exact ⟨by simpa using h2.2, by simpa using h1.2⟩
theorem none_all {n : ByteArray} {L : List Fd} (h : ∀ f ∈ L, nm n f = false) : allF n L = [] := by
  unfold allF
  rw [List.filter_eq_nil_iff.2 fun f hf => by rw [h f hf]; decide]
  rfl
theorem none_del {n : ByteArray} {L : List Fd} (h : ∀ f ∈ L, nm n f = false) : delF n L = L := by
  unfold delF
  exact List.filter_eq_self.2 fun f hf => by rw [h f hf]; rfl
theorem all_lenS (L : List Fd) : allF lenS (dlF L) = [] := none_all fun f hf => (dl_len L f hf).1
theorem all_tecS (L : List Fd) : allF tecS (dlF L) = [] := none_all fun f hf => (dl_len L f hf).2
theorem dl_dl (L : List Fd) : dlF (dlF L) = dlF L := by
  rw [dlF, none_del fun f hf => (dl_len L f hf).1, none_del fun f hf => (dl_len L f hf).2]
theorem dl_snoc (L : List Fd) (f : Fd) : dlF (L ++ [f]) = dlF L ++ (if nm lenS f then [] else if nm tecS f then [] else [f]) := by
  unfold dlF
  rw [del_snoc]
  cases h1 : nm lenS f
  · rw [if_neg (by decide), del_snoc]
    cases h2 : nm tecS f <;> simp
  · simp
theorem nm_ll (v : ByteArray) : nm lenS (lenS, v) = true := by
  have : nm lenS (lenS, v) = nm lenS (lenS, ⟨#[]⟩) := rfl
  rw [this]; decide +kernel
theorem nm_lt (v : ByteArray) : nm lenS (tecS, v) = false := by
  have : nm lenS (tecS, v) = nm lenS (tecS, ⟨#[]⟩) := rfl
  rw [this]; decide +kernel
theorem nm_tl (v : ByteArray) : nm tecS (lenS, v) = false := by
  have : nm tecS (lenS, v) = nm tecS (lenS, ⟨#[]⟩) := rfl
  rw [this]; decide +kernel
theorem nm_tt (v : ByteArray) : nm tecS (tecS, v) = true := by
  have : nm tecS (tecS, v) = nm tecS (tecS, ⟨#[]⟩) := rfl
  rw [this]; decide +kernel

/-- What is made says what it was made to say. -/
theorem say_dl (n : Int) (L : List Fd) : sayF n (dlF L) = (0, 0, 0) := by
  rw [say_len (by rw [all_tecS]; simp), all_lenS]; rfl
theorem say_chunk {n : Int} (L : List Fd) (h : n ≠ 0) : sayF n (dlF L ++ [(tecS, chS)]) = (2, 0, 0) := by
  have h1 : allF tecS (dlF L ++ [(tecS, chS)]) = [chS] := by rw [all_snoc, all_tecS, nm_tt]; rfl
  have h2 : allF lenS (dlF L ++ [(tecS, chS)]) = [] := by rw [all_snoc, all_lenS, nm_lt]; rfl
  refine say_ch ?_ ?_ h ?_
  · rw [h1]; simp
  · rw [h2]; simp
  · rw [h1, joinS_one]; decide +kernel
theorem dec_reads {z : Nat} (h : z ≤ 20000) : rdE 10 (decS z).data.toList = 0 ∧ rdN 10 (decS z).data.toList = z := by
  rw [decS_list]
  have h0 : dgs 10 (by omega) z ≠ [] := dgs_ne_nil _ _
  have h1 : okay 10 (dgs 10 (by omega) z) = true := dgs_okay _ (by omega) z
  have h2 : val 10 (dgs 10 (by omega) z) = z := by
    have := val_dgs (b := 10) (by omega) (by omega) [] rfl z
    simpa using this
  exact ⟨rdE_fine h0 h1 (by omega), by rw [rdN_fine h0 h1 (by omega), h2]⟩
theorem say_size {n : Int} (L : List Fd) {z : Nat} (h : z ≤ 20000) : sayF n (dlF L ++ [(lenS, decS z)]) = (1, z, 0) := by
  have h1 : allF tecS (dlF L ++ [(lenS, decS z)]) = [] := by rw [all_snoc, all_tecS, nm_tl]; rfl
  have h2 : allF lenS (dlF L ++ [(lenS, decS z)]) = [decS z] := by rw [all_snoc, all_lenS, nm_ll]; rfl
  rw [say_len (by rw [h1]; simp), h2]
  have hr := dec_reads h
  have hl : lsF (decS z) = (1, z, 0) := by unfold lsF; rw [hr.1, hr.2]; rfl
  show lensF (decS z) [] = _
  rw [lens_yes (by simp), hl]
  exact ls2_yes (by simp only; omega)

/-- What With tells, where it tells no error. -/
theorem wi_okay {L : List Fd} {K Z : Int} (h : wiE L K Z = 0) : rightF L = true ∧ 0 ≤ Z ∧ Z ≤ 20000 ∧ 0 ≤ K ∧ K ≤ 3 ∧ rightF (wiL L K Z) = true ∧ dlF (wiL L K Z) = dlF L ∧
    (K = 1 → ∀ n, sayF n (wiL L K Z) = (1, Z.toNat, 0)) ∧ (K = 2 → ∀ n : Int, n ≠ 0 → sayF n (wiL L K Z) = (2, 0, 0)) ∧ (K ≠ 1 → K ≠ 2 → ∀ n, sayF n (wiL L K Z) = (0, 0, 0)) := by
  cases hb : (rightF L && rbB K Z)
  · rw [(wi_arg hb).1] at h; exact absurd h (by decide)
  · have hb' := hb
    rw [Bool.and_eq_true] at hb'
    have hr := hb'.2
    unfold rbB at hr
    simp at hr
    have hz : Z.toNat ≤ 20000 := by omega
    by_cases k1 : K = 1
    · have e := wi_one hb k1
      rw [e.1] at h
      obtain ⟨a1, a2, a3, a4⟩ := add_zero h
      rw [a4] at e
      rw [e.2]
      refine ⟨hb'.1, hr.1.1.1, hr.1.1.2, hr.1.2, hr.2, right_add a1 a2 a3, by rw [dl_snoc, dl_dl, nm_ll]; simp, fun _ n => say_size L hz, fun k2 => absurd k2 (by omega), fun g => absurd k1 g⟩
    · by_cases k2 : K = 2
      · have e := wi_two hb k2
        rw [e.1] at h
        obtain ⟨a1, a2, a3, a4⟩ := add_zero h
        rw [a4] at e
        rw [e.2]
        refine ⟨hb'.1, hr.1.1.1, hr.1.1.2, hr.1.2, hr.2, right_add a1 a2 a3, by rw [dl_snoc, dl_dl, nm_lt, nm_tt]; simp, fun g => absurd g k1, fun _ n hn => say_chunk L hn, fun _ g => absurd k2 g⟩
      · have e := wi_else hb k1 k2
        rw [e.2]
        exact ⟨hb'.1, hr.1.1.1, hr.1.1.2, hr.1.2, hr.2, dl_right hb'.1, dl_dl L, fun g => absurd g k1, fun g => absurd g k2, fun _ _ n => say_dl n L⟩
theorem wi_bad {L : List Fd} {K Z : Int} (h : wiE L K Z ≠ 0) : wiL L K Z = [] := by
  cases hb : (rightF L && rbB K Z)
  · exact (wi_arg hb).2
  · by_cases k1 : K = 1
    · have e := wi_one hb k1
      rw [e.2]; rw [e.1] at h; exact add_bad h
    · by_cases k2 : K = 2
      · have e := wi_two hb k2
        rw [e.2]; rw [e.1] at h; exact add_bad h
      · exact absurd (wi_else hb k1 k2).1 h
theorem wi_short {L : List Fd} (K : Int) {Z : Int} (h : Sh L) : Sh (wiL L K Z) := by
  have hd := dl_short h
  have hadd : ∀ f : Fd, f.1.size ≤ 10000 → f.2.size ≤ 10000 → Sh (addL (dlF L) f) := by
    intro f h1 h2
    unfold addL
    split
    · split
      · intro x hx; cases hx
      · intro x hx
        rcases List.mem_append.1 hx with hx | hx
        · exact hd x hx
        · obtain rfl : x = f := by simpa using hx
          exact ⟨h1, h2⟩
    · intro x hx; cases hx
  unfold wiL
  split
  · next hb =>
    rw [Bool.and_eq_true] at hb
    have hr := hb.2
    unfold rbB at hr
    simp at hr
    split
    · exact hadd _ (show lenS.size ≤ 10000 by decide) (Nat.le_trans (decS_le _ (by omega)) (by decide))
    · split
      · exact hadd _ (by decide) (by decide)
      · exact hd
  · intro x hx; cases hx

end Go.Proofs.YtmpijlaidnhpnaaGreatDoor
