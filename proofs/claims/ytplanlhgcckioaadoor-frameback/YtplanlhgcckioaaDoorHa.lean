/- What With makes; its walk. -/
import Derived.Test.YtplanlhgcckioaaDoorGf
import Derived.Test.YtplanlhgcckioaaDoorNf
namespace Go.Proofs.YtplanlhgcckioaaDoor
set_option linter.unusedVariables false
set_option linter.unusedSimpArgs false
set_option maxRecDepth 100000
open Go.RowKit

/-- Whether a body may be; a row without both names; what With makes of a row. -/
def rbB (K Z : Int) : Bool := decide (0 ≤ Z) && decide (Z ≤ 20000) && decide (0 ≤ K) && decide (K ≤ 3)
def dlF (L : List Fd) : List Fd := delF tecS (delF lenS L)
def wiE (L : List Fd) (K Z : Int) : Nat := if rightF L && rbB K Z then (if K = 1 then addE (dlF L) (lenS, decS Z.toNat) else if K = 2 then addE (dlF L) (tecS, chS) else 0) else 1
def wiL (L : List Fd) (K Z : Int) : List Fd := if rightF L && rbB K Z then (if K = 1 then addL (dlF L) (lenS, decS Z.toNat) else if K = 2 then addL (dlF L) (tecS, chS) else dlF L) else []
theorem wi_arg {L : List Fd} {K Z : Int} (h : (rightF L && rbB K Z) = false) : wiE L K Z = 1 ∧ wiL L K Z = [] := by
  unfold wiE wiL; rw [h]; exact ⟨rfl, rfl⟩
theorem wi_one {L : List Fd} {K Z : Int} (h : (rightF L && rbB K Z) = true) (g : K = 1) : wiE L K Z = addE (dlF L) (lenS, decS Z.toNat) ∧ wiL L K Z = addL (dlF L) (lenS, decS Z.toNat) := by
  unfold wiE wiL; rw [h, if_pos rfl, if_pos rfl, if_pos g, if_pos g]; exact ⟨rfl, rfl⟩
theorem wi_two {L : List Fd} {K Z : Int} (h : (rightF L && rbB K Z) = true) (g : K = 2) : wiE L K Z = addE (dlF L) (tecS, chS) ∧ wiL L K Z = addL (dlF L) (tecS, chS) := by
  subst g
  unfold wiE wiL; rw [h]; exact ⟨rfl, rfl⟩
theorem wi_else {L : List Fd} {K Z : Int} (h : (rightF L && rbB K Z) = true) (g : K ≠ 1) (g2 : K ≠ 2) : wiE L K Z = 0 ∧ wiL L K Z = dlF L := by
  unfold wiE wiL; rw [h, if_pos rfl, if_pos rfl, if_neg g, if_neg g2, if_neg g, if_neg g2]; exact ⟨rfl, rfl⟩
theorem dl_le (L : List Fd) : (dlF L).length ≤ L.length := Nat.le_trans (del_le _ _) (del_le _ _)
theorem dl_short {L : List Fd} (h : Sh L) : Sh (dlF L) := del_short (del_short h)
theorem u64_fits {z : Nat} (h : z ≤ 20000) : IntKind.u64.wrap (z : Int) = z := by simp [IntKind.wrap, IntKind.bits, IntKind.signed]; omega

set_option maxHeartbeats 2000000 in
theorem rightBody_any (K Z : Int) (w : World) :
    Calls Tryd.prog 16 #[.agg #[.int .i64 K, .int .i64 Z]] w fun e w' => e = .returned (.bool (rbB K Z)) ∧ Below w.heap.size w w' := by
  have HV : Hid (rbB K Z = (decide (0 ≤ Z) && decide (Z ≤ 20000) && decide (0 ≤ K) && decide (K ≤ 3))) := rfl
  cases h1 : decide (0 ≤ Z)
  · rw [h1] at HV
    go_enter Tryd.func16, Tryd.ntmps16
    go_wp2_with fail
    go_ret
    exact ⟨ret_bool (by rw [HV.out]; simp), one_alloc _ _ _⟩
  · cases h2 : decide (Z ≤ 20000)
    · rw [h1, h2] at HV
      go_enter Tryd.func16, Tryd.ntmps16
      go_wp2_with fail
      go_ret
      exact ⟨ret_bool (by rw [HV.out]; simp), one_alloc _ _ _⟩
    · cases h3 : decide (0 ≤ K)
      · rw [h1, h2, h3] at HV
        go_enter Tryd.func16, Tryd.ntmps16
        go_wp2_with fail
        go_ret
        exact ⟨ret_bool (by rw [HV.out]; simp), one_alloc _ _ _⟩
      · cases h4 : decide (K ≤ 3)
        · rw [h1, h2, h3, h4] at HV
          go_enter Tryd.func16, Tryd.ntmps16
          go_wp2_with fail
          go_ret
          exact ⟨ret_bool (by rw [HV.out]; simp), one_alloc _ _ _⟩
        · rw [h1, h2, h3, h4] at HV
          go_enter Tryd.func16, Tryd.ntmps16
          go_wp2_with fail
          go_ret
          exact ⟨ret_bool (by rw [HV.out]; simp), one_alloc _ _ _⟩

set_option maxHeartbeats 8000000 in
theorem with_any (L : List Fd) (v : Value) (K Z : Int) (w : World) (hr : Row w v L) (hl : L.length ≤ 50) (hS : Sh L) (ht : Tabs w) :
    Calls Tryd.prog 6 #[v, .agg #[.int .i64 K, .int .i64 Z]] w fun en w' => ∃ r, en = .returned (.tuple #[r, .int .i64 (wiE L K Z : Nat)]) ∧ Own w' w.heap.size r (wiL L K Z) ∧ Below w.heap.size w w' := by
  have hB := one_alloc w #[.int .i64 K, .int .i64 Z] 24
  have hT := Tw.new w K Z
  have hR := hide (hr.below hB)
  have hTb := ht.below hB
  have hrf := fun w h => right_any L v w h (by omega) hS
  have hrb := fun w => rightBody_any K Z w
  have hd1 : ∀ w0, Row w0 v L → Calls Tryd.prog 17 #[v, .string ⟨#[67, 111, 110, 116, 101, 110, 116, 45, 76, 101, 110, 103, 116, 104]⟩] w0 fun e w' => ∃ r, e = .returned r ∧ Own w' w0.heap.size r (delF lenS L) ∧ Below w0.heap.size w0 w' := fun w0 h => remove_any L v lenS w0 h (by omega) hS (by decide)
  have hd2 : ∀ u w0, Row w0 u (delF lenS L) → Calls Tryd.prog 17 #[u, .string ⟨#[84, 114, 97, 110, 115, 102, 101, 114, 45, 69, 110, 99, 111, 100, 105, 110, 103]⟩] w0 fun e w' => ∃ r, e = .returned r ∧ Own w' w0.heap.size r (dlF L) ∧ Below w0.heap.size w0 w' := fun u w0 h => remove_any (delF lenS L) u tecS w0 h (Nat.le_trans (del_le _ _) (by omega)) (del_short hS) (by decide)
  have ha1 : ∀ u t w0, t.size ≤ 10000 → Row w0 u (dlF L) → Calls Tryd.prog 18 #[u, .string ⟨#[67, 111, 110, 116, 101, 110, 116, 45, 76, 101, 110, 103, 116, 104]⟩, .string t] w0 fun e w' => ∃ r, e = .returned (.tuple #[r, .int .i64 (addE (dlF L) (lenS, t) : Nat)]) ∧ Own w' w0.heap.size r (addL (dlF L) (lenS, t)) ∧ Below w0.heap.size w0 w' := fun u t w0 h0 h => add_any (dlF L) u (lenS, t) w0 h (Nat.le_trans (dl_le L) (by omega)) (dl_short hS) (show lenS.size ≤ 10000 by decide) h0
  have ha2 : ∀ u w0, Row w0 u (dlF L) → Calls Tryd.prog 18 #[u, .string ⟨#[84, 114, 97, 110, 115, 102, 101, 114, 45, 69, 110, 99, 111, 100, 105, 110, 103]⟩, .string ⟨#[99, 104, 117, 110, 107, 101, 100]⟩] w0 fun e w' => ∃ r, e = .returned (.tuple #[r, .int .i64 (addE (dlF L) (tecS, chS) : Nat)]) ∧ Own w' w0.heap.size r (addL (dlF L) (tecS, chS)) ∧ Below w0.heap.size w0 w' := fun u w0 h => add_any (dlF L) u (tecS, chS) w0 h (Nat.le_trans (dl_le L) (by omega)) (dl_short hS) (by decide) (by decide)
  obtain ⟨aa, ca, rfl⟩ := hr.slice
  clear hr hS
  cases hf : rightF L
  · have HE := hide (wi_arg (L := L) (K := K) (Z := Z) (by rw [hf]; rfl))
    rw [hf] at hrf
    clear hf
    go_enter Tryd.func6, Tryd.ntmps6
    go_wp2_with fail
    generalize World.alloc _ _ = W1 at hT hB hR hTb ⊢
    refine (hrf _ hR.out).mono ?_
    rintro en w1 ⟨rfl, hb1⟩
    have hT1 := hT.below hb1
    have hB1 := hB.trans (hb1.mono hB.size)
    have hR1 := hide (hR.out.below hb1)
    have hTb1 := hTb.below hb1
    clear hT hB hR hTb hb1
    go_wp2_with fail
    go_ret2
    exact ⟨_, ret_row rfl (by rw [HE.out.1]; rfl), by rw [HE.out.2]; exact Own.nil _ _, hB1⟩
  · rw [hf] at hrf
    cases hb : rbB K Z
    · have HE := hide (wi_arg (L := L) (K := K) (Z := Z) (by rw [hf, hb]; rfl))
      rw [hb] at hrb
      clear hf hb
      go_enter Tryd.func6, Tryd.ntmps6
      go_wp2_with fail
      generalize World.alloc _ _ = W1 at hT hB hR hTb ⊢
      refine (hrf _ hR.out).mono ?_
      rintro en w1 ⟨rfl, hb1⟩
      have hT1 := hT.below hb1
      have hB1 := hB.trans (hb1.mono hB.size)
      have hR1 := hide (hR.out.below hb1)
      have hTb1 := hTb.below hb1
      clear hT hB hR hTb hb1
      obtain ⟨c0, c1, -, -⟩ := id hT1
      go_wp2_with fail
      refine (hrb _).mono ?_
      rintro en w2 ⟨rfl, hb2⟩
      have hT2 := hT1.below hb2
      have hB2 := hB1.trans (hb2.mono hB1.size)
      have hR2 := hide (hR1.out.below hb2)
      have hTb2 := hTb1.below hb2
      clear hT1 hB1 hR1 hTb1 hb2 c0 c1
      go_wp2_with fail
      go_ret2
      exact ⟨_, ret_row rfl (by rw [HE.out.1]; rfl), by rw [HE.out.2]; exact Own.nil _ _, hB2⟩
    · rw [hb] at hrb
      have hboth : (rightF L && rbB K Z) = true := by rw [hf, hb]; rfl
      have hz : 0 ≤ Z ∧ Z ≤ 20000 := by
        unfold rbB at hb
        simp at hb
        exact ⟨hb.1.1.1, hb.1.1.2⟩
      clear hf hb
      by_cases k1 : K = 1
      · have HE := hide (wi_one hboth k1)
        obtain ⟨z, rfl⟩ : ∃ z : Nat, Z = z := ⟨Z.toNat, by omega⟩
        have hz2 : z ≤ 20000 := by omega
        have hzw := u64_fits hz2
        have hzt : ((z : Int)).toNat = z := by omega
        rw [hzt] at HE
        have hsz := decS_le z (by omega)
        clear hboth hz hzt
        subst k1
        go_enter Tryd.func6, Tryd.ntmps6
        go_wp2_with fail
        generalize World.alloc _ _ = W1 at hT hB hR hTb ⊢
        refine (hrf _ hR.out).mono ?_
        rintro en w1 ⟨rfl, hb1⟩
        have hT1 := hT.below hb1
        have hB1 := hB.trans (hb1.mono hB.size)
        have hR1 := hide (hR.out.below hb1)
        have hTb1 := hTb.below hb1
        clear hT hB hR hTb hb1
        obtain ⟨c0, c1, -, -⟩ := id hT1
        go_wp2_with fail
        refine (hrb _).mono ?_
        rintro en w2 ⟨rfl, hb2⟩
        have hT2 := hT1.below hb2
        have hB2 := hB1.trans (hb2.mono hB1.size)
        have hR2 := hide (hR1.out.below hb2)
        have hTb2 := hTb1.below hb2
        clear hT1 hB1 hR1 hTb1 hb2 c0 c1
        go_wp2_with fail
        refine (hd1 _ hR2.out).mono ?_
        rintro en w3 ⟨u3, rfl, ho3, hb3⟩
        have hT3 := hT2.below hb3
        have hB3 := hB2.trans (hb3.mono hB2.size)
        have hTb3 := hTb2.below hb3
        have hR3 := hide ho3.row
        obtain ⟨a3, n3, rfl⟩ := ho3.row.slice
        clear hT2 hB2 hR2 hTb2 hb3 ho3
        go_wp2_with fail
        refine (hd2 _ _ hR3.out).mono ?_
        rintro en w4 ⟨u4, rfl, ho4, hb4⟩
        have hT4 := hT3.below hb4
        have hB4 := hB3.trans (hb4.mono hB3.size)
        have hTb4 := hTb3.below hb4
        have hO4 := hide (ho4.mono hB3.size)
        have hR4 := hide ho4.row
        obtain ⟨a4, n4, rfl⟩ := ho4.row.slice
        obtain ⟨c0, c1, -, -⟩ := id hT4
        clear hT3 hB3 hR3 hTb3 hb4 ho4
        go_wp2_with fail
        refine (dec_any z (by omega) _ hTb4).mono ?_
        rintro en w5 ⟨rfl, hb5⟩
        have hB5 := hB4.trans (hb5.mono hB4.size)
        have hR5 := hide (hR4.out.below hb5)
        generalize decS z = t at HE hsz ⊢
        go_wp2_with fail
        refine (ha1 _ t _ (by omega) hR5.out).mono ?_
        rintro en w6 ⟨u6, rfl, ho6, hb6⟩
        have hB6 := hB5.trans (hb6.mono hB5.size)
        go_wp2_with fail
        go_ret2
        exact ⟨_, ret_row rfl (by rw [HE.out.1]), by rw [HE.out.2]; exact ho6.mono hB5.size, hB6⟩
      · have k1b : (K == 1) = false := by simpa using k1
        by_cases k2 : K = 2
        · have HE := hide (wi_two hboth k2)
          clear hboth
          subst k2
          go_enter Tryd.func6, Tryd.ntmps6
          go_wp2_with fail
          generalize World.alloc _ _ = W1 at hT hB hR hTb ⊢
          refine (hrf _ hR.out).mono ?_
          rintro en w1 ⟨rfl, hb1⟩
          have hT1 := hT.below hb1
          have hB1 := hB.trans (hb1.mono hB.size)
          have hR1 := hide (hR.out.below hb1)
          have hTb1 := hTb.below hb1
          clear hT hB hR hTb hb1
          obtain ⟨c0, c1, -, -⟩ := id hT1
          go_wp2_with fail
          refine (hrb _).mono ?_
          rintro en w2 ⟨rfl, hb2⟩
          have hT2 := hT1.below hb2
          have hB2 := hB1.trans (hb2.mono hB1.size)
          have hR2 := hide (hR1.out.below hb2)
          have hTb2 := hTb1.below hb2
          clear hT1 hB1 hR1 hTb1 hb2 c0 c1
          go_wp2_with fail
          refine (hd1 _ hR2.out).mono ?_
          rintro en w3 ⟨u3, rfl, ho3, hb3⟩
          have hT3 := hT2.below hb3
          have hB3 := hB2.trans (hb3.mono hB2.size)
          have hTb3 := hTb2.below hb3
          have hR3 := hide ho3.row
          obtain ⟨a3, n3, rfl⟩ := ho3.row.slice
          clear hT2 hB2 hR2 hTb2 hb3 ho3
          go_wp2_with fail
          refine (hd2 _ _ hR3.out).mono ?_
          rintro en w4 ⟨u4, rfl, ho4, hb4⟩
          have hT4 := hT3.below hb4
          have hB4 := hB3.trans (hb4.mono hB3.size)
          have hTb4 := hTb3.below hb4
          have hO4 := hide (ho4.mono hB3.size)
          have hR4 := hide ho4.row
          obtain ⟨a4, n4, rfl⟩ := ho4.row.slice
          obtain ⟨c0, c1, -, -⟩ := id hT4
          clear hT3 hB3 hR3 hTb3 hb4 ho4
          go_wp2_with fail
          refine (ha2 _ _ hR4.out).mono ?_
          rintro en w6 ⟨u6, rfl, ho6, hb6⟩
          have hB6 := hB4.trans (hb6.mono hB4.size)
          go_wp2_with fail
          go_ret2
          exact ⟨_, ret_row rfl (by rw [HE.out.1]), by rw [HE.out.2]; exact ho6.mono hB4.size, hB6⟩
        · have HE := hide (wi_else hboth k1 k2)
          have k2b : (K == 2) = false := by simpa using k2
          clear hboth
          go_enter Tryd.func6, Tryd.ntmps6
          go_wp2_with fail
          generalize World.alloc _ _ = W1 at hT hB hR hTb ⊢
          refine (hrf _ hR.out).mono ?_
          rintro en w1 ⟨rfl, hb1⟩
          have hT1 := hT.below hb1
          have hB1 := hB.trans (hb1.mono hB.size)
          have hR1 := hide (hR.out.below hb1)
          have hTb1 := hTb.below hb1
          clear hT hB hR hTb hb1
          obtain ⟨c0, c1, -, -⟩ := id hT1
          go_wp2_with fail
          refine (hrb _).mono ?_
          rintro en w2 ⟨rfl, hb2⟩
          have hT2 := hT1.below hb2
          have hB2 := hB1.trans (hb2.mono hB1.size)
          have hR2 := hide (hR1.out.below hb2)
          have hTb2 := hTb1.below hb2
          clear hT1 hB1 hR1 hTb1 hb2 c0 c1
          go_wp2_with fail
          refine (hd1 _ hR2.out).mono ?_
          rintro en w3 ⟨u3, rfl, ho3, hb3⟩
          have hT3 := hT2.below hb3
          have hB3 := hB2.trans (hb3.mono hB2.size)
          have hTb3 := hTb2.below hb3
          have hR3 := hide ho3.row
          obtain ⟨a3, n3, rfl⟩ := ho3.row.slice
          clear hT2 hB2 hR2 hTb2 hb3 ho3
          go_wp2_with fail
          refine (hd2 _ _ hR3.out).mono ?_
          rintro en w4 ⟨u4, rfl, ho4, hb4⟩
          have hT4 := hT3.below hb4
          have hB4 := hB3.trans (hb4.mono hB3.size)
          have hTb4 := hTb3.below hb4
          have hO4 := hide (ho4.mono hB3.size)
          have hR4 := hide ho4.row
          obtain ⟨a4, n4, rfl⟩ := ho4.row.slice
          obtain ⟨c0, c1, -, -⟩ := id hT4
          clear hT3 hB3 hR3 hTb3 hb4 ho4
          go_wp2_with fail
          go_ret2
          exact ⟨_, ret_row rfl (by rw [HE.out.1]; rfl), by rw [HE.out.2]; exact hO4.out, hB4⟩

end Go.Proofs.YtplanlhgcckioaaDoor
