/- The walk of SurrogateJoins. -/
import Derived.Test.YtkakinakjnpbjaaDoorLa
namespace Go.Proofs.YtkakinakjnpbjaaDoor
set_option linter.unusedVariables false
set_option linter.unusedSimpArgs false
open Go.RowKit

def joinS (s t : ByteArray) : ByteArray := s ++ ⟨#[32, 44, 32]⟩ ++ t
theorem joinS_list (s t : ByteArray) : (joinS s t).data.toList = s.data.toList ++ [32, 44, 32] ++ t.data.toList := by unfold joinS; rw [app_list, app_list]
theorem joinS_size (s t : ByteArray) : (joinS s t).size = s.size + 3 + t.size := by rw [← size_list, joinS_list]; simp; omega
theorem rd_joinS {s t : ByteArray} {A B : List W3} (ha : rdL s.data.toList = some A) (hb : rdL t.data.toList = some B) : rdF (joinS s t) = rdF s ++ rdF t ∧ rdE (joinS s t) = 0 := by
  have := rd_some (s := joinS s t) (by rw [joinS_list]; exact rd_join ha hb)
  rw [this.1, this.2, (rd_some ha).1, (rd_some hb).1, List.map_append]
  exact ⟨rfl, rfl⟩

/-- One row is put behind another one, which the call has made, by an operation that stands behind a guard. -/
theorem op_append_Row {o : Oper} {a : Act} {w : World} {K : Act → World → Prop} {Q : Exit → Act → World → Prop} (s x : Operand)
    (ho : o.op = .call { callee := .builtin .append, args := #[s, x], argTypes := #[23, 23] }) (base : Nat) (v vx : Value) (D L : List Fd) (hs : a.eval s = v) (hx : a.eval x = vx)
    (hown : Own w base v D) (hrow : Row w vx L) (hl : D.length + L.length ≤ 1000000) (hbase : base ≤ w.heap.size)
    (h : ∀ v' w', Own w' base v' (D ++ L) → w.grownBy w' v.ownBlock → K (a.put o.dst v') w') : Oper.wp Tryd.prog o a w K Q := by
  obtain ⟨i0, hi0, hz0, hz1, hz2⟩ := info_parts Tryd.info31
  obtain ⟨b, cap, rfl, hcap, hR⟩ := hrow
  by_cases h0 : L.length = 0
  · obtain rfl : L = [] := List.eq_nil_of_length_eq_zero h0
    have hrun := run_append_owned_zero (P := Tryd.prog) (w := w) base 23 o.type 31 i0 3 Tryd.underlying23 hi0 v D.length (fcells D) hown b cap
    unfold Oper.wp
    simp [execOp, ho, resolve, invoke, builtin, hs, hx, hrun, Result.andThen]
    exact h v w (by rw [List.append_nil]; exact hown) (grownBy_refl _ _)
  · obtain ⟨g, off, rfl, -, -⟩ := hR 0 (by omega)
    refine wp_append_own _ s x 23 ho base 31 i0 _ 3 48 Tryd.underlying23 hi0 hz0 hz1 hz2 rfl (by decide) v D.length (fcells D) hs hown ⟨g, off, none⟩ L.length cap (fcells L) hx (fcells_length L) (row_cells (cap := cap) hR) (fcells_one L) (maxLen_of (by omega)) (by omega) hbase ?_
    intro v' w' h1 h2 _
    refine h v' w' ?_ h2
    unfold Own
    rw [List.length_append, fcells_append]
    exact h1
theorem wpList_append_RowW {w : World} {ops : Array Oper} {rest : List Oper} {o : Oper} {a : Act} {Q : Exit → Act → World → Prop} (hw : Region.wanted o (yielded ops a.tmps) = true) (s x : Operand)
    (ho : o.op = .call { callee := .builtin .append, args := #[s, x], argTypes := #[23, 23] }) (base : Nat) (v vx : Value) (D L : List Fd) (hs : a.eval s = v) (hx : a.eval x = vx)
    (hown : Own w base v D) (hrow : Row w vx L) (hl : D.length + L.length ≤ 1000000) (hbase : base ≤ w.heap.size)
    (h : ∀ v' w', Own w' base v' (D ++ L) → w.grownBy w' v.ownBlock → wpList Tryd.prog ops Q rest (a.put o.dst v') w') :
    wpList Tryd.prog ops Q (o :: rest) a w :=
  BigFrame.wpList_want hw fun K hK => op_append_Row s x ho base v vx D L hs hx hown hrow hl hbase (fun v' w' h1 h2 => hK _ _ (h v' w' h1 h2))

set_option maxRecDepth 100000 in
set_option maxHeartbeats 4000000 in
theorem joins_walk (s0 t0 : ByteArray) (w : World) (hs0 : s0.size ≤ maxLen) (ht0 : t0.size ≤ maxLen) :
    Calls Tryd.prog 6 #[.string s0, .string t0] w fun e w' => e = .returned (.bool true) ∧ Below w.heap.size w w' := by
  go_enter Tryd.func6, Tryd.ntmps6
  go_wp2_with fail
  refine (short_any s0 w hs0).mono ?_
  rintro e w0 ⟨s, rfl, hs, rfl⟩
  go_wp2_with fail
  refine (short_any t0 _ ht0).mono ?_
  rintro e w0 ⟨t, rfl, ht, rfl⟩
  have HLS : Hid ((rdF s).length ≤ 1000) := by unfold Hid; have := rdF_len s; omega
  have HLT : Hid ((rdF t).length ≤ 1000) := by unfold Hid; have := rdF_len t; omega
  have HJZ : Hid ((joinS s t).size ≤ 10000) := by unfold Hid; have := joinS_size s t; omega
  go_wp2_with fail
  refine (read_any s _ (by omega)).mono ?_
  rintro e w1 ⟨v1, rfl, ho1, c1⟩
  go_wp2_with fail
  refine (read_any t _ (by omega)).mono ?_
  rintro e w2 ⟨v2, rfl, ho2, hb2⟩
  have c2 := c1.trans (hb2.mono c1.size)
  have R1 := hide ((Own.row ho1).below hb2)
  have R2 := hide (Own.row ho2)
  clear ho1 ho2 hb2 c1
  go_wp2_with fail
  refine (read_any (joinS s t) w2 (by have := HJZ.out; omega)).mono ?_
  rintro e w3 ⟨v3, rfl, ho3, hb3⟩
  have c3 := c2.trans (hb3.mono c2.size)
  have R1 := hide (R1.out.below hb3)
  have R2 := hide (R2.out.below hb3)
  have R3 := hide (Own.row ho3)
  clear hb3 c2 ho3
  rcases hx : rdL s.data.toList with _ | X
  · have HF := hide (rd_none hx)
    rw [HF.out.1] at R1
    obtain ⟨a1, n1, rfl, -, -⟩ := R1.out
    have hE := rdE_le t
    rw [HF.out.2]
    clear hx R1
    rcases hy : rdL t.data.toList with _ | Y
    · have HG := hide (rd_none hy)
      rw [HG.out.1] at R2
      obtain ⟨a2, n2, rfl, -, -⟩ := R2.out
      rw [HG.out.2]
      clear hy R2 hE
      go_wp2_with fail
      refine (alive_any w3).mono ?_
      rintro e w4 ⟨rfl, hb4⟩
      have c4 := c3.trans (hb4.mono c3.size)
      go_wp2_with fail
      go_ret
      exact ⟨rfl, c4⟩
    · have HG := hide (rd_some hy)
      rw [HG.out.2]
      clear hy hE
      go_wp2_with fail
      refine (alive_any w3).mono ?_
      rintro e w4 ⟨rfl, hb4⟩
      have c4 := c3.trans (hb4.mono c3.size)
      go_wp2_with fail
      go_ret
      exact ⟨rfl, c4⟩
  · have HF := hide (rd_some hx)
    rcases hy : rdL t.data.toList with _ | Y
    · have HG := hide (rd_none hy)
      rw [HG.out.1] at R2
      obtain ⟨a2, n2, rfl, -, -⟩ := R2.out
      rw [HG.out.2, HF.out.2]
      clear hy hx R2
      go_wp2_with fail
      refine (alive_any w3).mono ?_
      rintro e w4 ⟨rfl, hb4⟩
      have c4 := c3.trans (hb4.mono c3.size)
      go_wp2_with fail
      go_ret
      exact ⟨rfl, c4⟩
    · have HJ := hide (rd_joinS hx hy)
      have HG := hide (rd_some hy)
      rw [HJ.out.1] at R3
      rw [HJ.out.2, HG.out.2, HF.out.2]
      clear hx hy HF HG HJ
      go_wp2_with fail
      refine (alive_any w3).mono ?_
      rintro e w4 ⟨rfl, hb4⟩
      have c4 := c3.trans (hb4.mono c3.size)
      have R1 := hide (R1.out.below hb4)
      have R2 := hide (R2.out.below hb4)
      have R3 := hide (R3.out.below hb4)
      have hbA := one_alloc w4 #[] 31
      have hs4 := c4.size
      have S1 := hide (R1.out.below hbA)
      have ho0 : Own (w4.alloc (.cells #[] 31)) w4.heap.size (.slice (some ⟨w4.heap.size, 0, none⟩) 0 0) [] := own_lit w4 _ (Nat.le_refl _)
      have HO := hide ho0
      have HA := hide hbA
      have C4 := hide c4
      clear hb4 c3 hbA ho0 c4
      go_wp2_with (at_builtin; first | (refine wpList_append_RowW (by kernel_rfl) (.tmp 65) (.tmp 66) rfl w4.heap.size (.slice (some ⟨w4.heap.size, 0, none⟩) 0 0) v1 [] (rdF s) rfl rfl HO.out S1.out (by have := HLS.out; simp; omega) (by simp) ?_; intro v5 w5 ho5 hg5; have hB5 := hide (HA.out.grown hg5 (by simp) (own_block HO.out)); have HO5 := hide ho5; have S2 := hide (R2.out.below hB5.out); clear ho5 hg5) | (refine wpList_append_RowW (by kernel_rfl) (.tmp 67) (.tmp 68) rfl w4.heap.size v5 v2 ([] ++ rdF s) (rdF t) rfl rfl HO5.out S2.out (by have := HLS.out; have := HLT.out; simp; omega) hB5.out.size ?_; intro v6 w6 ho6 hg6; have hB6 := hide (hB5.out.grown hg6 hB5.out.size (own_block HO5.out)); have HO6 := hide ho6; clear ho6 hg6))
      have S3 := R3.out.below hB6.out
      have S6 := HO6.out.row
      rw [List.nil_append] at S6
      refine (refsame_any (rdF s ++ rdF t) v3 v6 w6 S3 S6 (by have := HLS.out; have := HLT.out; simp; omega)).mono ?_
      rintro e w7 ⟨rfl, hb7⟩
      have c6 := C4.out.trans (hB6.out.mono hs4)
      have c7 := c6.trans (hb7.mono c6.size)
      go_wp2_with fail
      go_ret
      exact ⟨rfl, c7⟩

end Go.Proofs.YtkakinakjnpbjaaDoor
