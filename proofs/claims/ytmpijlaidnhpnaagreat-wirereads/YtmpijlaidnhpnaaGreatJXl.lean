/- The walk of which readers may be. -/
import Derived.Test.YtmpijlaidnhpnaaGreatJXj
namespace Go.Proofs.YtmpijlaidnhpnaaGreat
set_option linter.unusedVariables false
set_option linter.unusedSimpArgs false
set_option maxRecDepth 100000
open Go.RowKit

/-- A struct's load behind a guard that lets it through, in a plain region. -/
theorem wpList_load_guard {P : Program} {ops : Array Oper} {rest : List Oper} {op : Oper} {a : Act} {w : World} {Q : Exit → Act → World → Prop} (hw : Region.wanted op (yielded ops a.tmps) = true) (ty : TypeId) (x : Operand) (ho : op.op = .load ty x)
    (b o : Nat) (hx : a.eval x = .pointer (some ⟨b, o, none⟩)) (cs : List Value) (d : TypeDesc) (hc : w.rangeAt b o cs)
    (hu : P.underlying ty = some d) (hd : d.isRow = true) (hi : (P.info? ty).map (·.size) = some cs.length)
    (h : wpList P ops Q rest (a.put op.dst (.agg cs.toArray)) w) : wpList P ops Q (op :: rest) a w := by
  unfold wpList
  rw [if_pos hw]
  exact Or.inl (wp_load_mid ty x ho b o hx cs d hc hu hd hi h)

set_option maxHeartbeats 8000000 in
theorem wright_any (r : Rr) (v : Value) (w : World) (hr : Row w v r.m.L) (hs : Short r.m.s) (hl : r.m.L.length ≤ 50) (hS : Sh r.m.L) (hb : r.m.b.length ≤ 1000000) (hc : r.c.line.size ≤ 1000000) (hbu : r.buf.length ≤ 1000000) :
    Calls Tryz.prog 11 #[r.v v] w fun en w' => en = .returned (.bool (rgB r)) ∧ Below w.heap.size w w' := by
  have hn := fun W hW => nothing_any r v W hW
  have hL := fun W hW => rightLength_any r v W hW hs hl hS
  have hF := fun W hW => rightSoFar_any r v W hW hb hc
  have HV : Hid (rgB r = if r.e ≠ 0 then decide (r.buf = []) && !r.i && noneB r
    else if r.i = true then decide (r.buf = []) && lenB r && sofB r else decide (r.buf.length ≤ 4000) && noneB r) := rfl
  rw [HV.out]
  obtain ⟨va, vc, rfl⟩ := hr.slice
  obtain ⟨P1, hP1⟩ : ∃ q, noneB r = q := ⟨_, rfl⟩
  obtain ⟨P2, hP2⟩ : ∃ q, lenB r = q := ⟨_, rfl⟩
  obtain ⟨P3, hP3⟩ : ∃ q, sofB r = q := ⟨_, rfl⟩
  rw [hP1] at hn ⊢
  rw [hP2] at hL ⊢
  rw [hP3] at hF ⊢
  have hbe : (Ck.bs r.buf).toList.isEmpty = decide (r.buf = []) := by rw [ByteArray.toList_eq, Ck.bs_list]; cases r.buf <;> rfl
  have hbs := Ck.bs_size r.buf
  obtain ⟨a, t, buf, i, ⟨⟨sm, st, sc, sr, sn⟩, L, b⟩, k, z, ⟨cst, cln, clf, csz⟩, e⟩ := r
  unfold Rr.v at hn hL hF ⊢
  simp only at hn hL hF hr hbe hbs hbu ⊢
  generalize L.length = vn at hn hL hF hr ⊢
  clear HV hP1 hP2 hP3 hs hl hS hb hc
  have hX := Blk.new w 33 [.bool a, .string t, .string (Ck.bs buf), .bool i, .string sm, .string st, .int .i64 sc, .string sr, .int .i64 sn, .slice va vn vc, .string (Ck.bs b), .int .i64 k, .int .i64 z, .int .i64 cst, .string cln, .int .i64 clf, .int .i64 csz, .int .i64 e]
  change Blk (w.alloc (.cells #[.bool a, .string t, .string (Ck.bs buf), .bool i, .string sm, .string st, .int .i64 sc, .string sr, .int .i64 sn, .slice va vn vc, .string (Ck.bs b), .int .i64 k, .int .i64 z, .int .i64 cst, .string cln, .int .i64 clf, .int .i64 csz, .int .i64 e] 33)) _ _ _ at hX
  have hB : Below w.heap.size w (w.alloc (.cells #[.bool a, .string t, .string (Ck.bs buf), .bool i, .string sm, .string st, .int .i64 sc, .string sr, .int .i64 sn, .slice va vn vc, .string (Ck.bs b), .int .i64 k, .int .i64 z, .int .i64 cst, .string cln, .int .i64 clf, .int .i64 csz, .int .i64 e] 33)) := (Below.refl _ _).alloc (Nat.le_refl _) _
  have hR := hr.below hB
  have HR := hide hR
  clear hR hr
  by_cases he : e = 0
  · subst he
    rw [if_neg (show ¬ (0 : Int) ≠ 0 by decide)]
    cases i
    · rw [if_neg (show ¬ false = true by decide)]
      by_cases h4 : buf.length ≤ 4000
      · have h4z : (buf.length : Int) ≤ 4000 := by omega
        rw [decide_eq_true h4, Bool.true_and]
        go_enter Tryz.func11, Tryz.ntmps11
        go_upto_region 1 with fail
        generalize World.alloc _ _ = W1 at hX hB HR ⊢
        have c17 : W1.cell? ⟨w.heap.size, 17, none⟩ = some (.int .i64 0) := hX.cell 17 _ rfl
        have c3 : W1.cell? ⟨w.heap.size, 3, none⟩ = some (.bool false) := hX.cell 3 _ rfl
        have c2 : W1.cell? ⟨w.heap.size, 2, none⟩ = some (.string (Ck.bs buf)) := hX.cell 2 _ rfl
        go_wp2_with (refine wpList_load_guard (by rfl) 33 (.tmp 1) rfl w.heap.size 0 rfl _ _ (hX.range 0 18) Tryz.underlying33 rfl (by kernel_rfl) ?_)
        refine (hn _ HR.out).mono ?_
        rintro en w1 ⟨rfl, hb1⟩
        go_wp2_with fail
        go_ret
        exact ⟨rfl, hB.trans (hb1.mono hB.size)⟩
      · have h4z : ¬ (buf.length : Int) ≤ 4000 := by omega
        rw [decide_eq_false h4, Bool.false_and]
        go_enter Tryz.func11, Tryz.ntmps11
        go_upto_region 1 with fail
        generalize World.alloc _ _ = W1 at hX hB HR ⊢
        have c17 : W1.cell? ⟨w.heap.size, 17, none⟩ = some (.int .i64 0) := hX.cell 17 _ rfl
        have c3 : W1.cell? ⟨w.heap.size, 3, none⟩ = some (.bool false) := hX.cell 3 _ rfl
        have c2 : W1.cell? ⟨w.heap.size, 2, none⟩ = some (.string (Ck.bs buf)) := hX.cell 2 _ rfl
        go_wp2_with (refine wpList_load_guard (by rfl) 33 (.tmp 1) rfl w.heap.size 0 rfl _ _ (hX.range 0 18) Tryz.underlying33 rfl (by kernel_rfl) ?_)
        go_ret
        exact ⟨rfl, hB⟩
    · rw [if_pos rfl]
      cases hbb : decide (buf = [])
      · rw [hbb] at hbe
        rw [Bool.false_and, Bool.false_and]
        clear hbb
        go_enter Tryz.func11, Tryz.ntmps11
        go_upto_region 1 with fail
        generalize World.alloc _ _ = W1 at hX hB HR ⊢
        have c17 : W1.cell? ⟨w.heap.size, 17, none⟩ = some (.int .i64 0) := hX.cell 17 _ rfl
        have c3 : W1.cell? ⟨w.heap.size, 3, none⟩ = some (.bool true) := hX.cell 3 _ rfl
        have c2 : W1.cell? ⟨w.heap.size, 2, none⟩ = some (.string (Ck.bs buf)) := hX.cell 2 _ rfl
        go_wp2_with (refine wpList_load_guard (by rfl) 33 (.tmp 1) rfl w.heap.size 0 rfl _ _ (hX.range 0 18) Tryz.underlying33 rfl (by kernel_rfl) ?_)
        go_ret
        exact ⟨rfl, hB⟩
      · rw [hbb] at hbe
        rw [Bool.true_and]
        clear hbb
        cases P2
        · rw [Bool.false_and]
          go_enter Tryz.func11, Tryz.ntmps11
          go_upto_region 1 with fail
          generalize World.alloc _ _ = W1 at hX hB HR ⊢
          have c17 : W1.cell? ⟨w.heap.size, 17, none⟩ = some (.int .i64 0) := hX.cell 17 _ rfl
          have c3 : W1.cell? ⟨w.heap.size, 3, none⟩ = some (.bool true) := hX.cell 3 _ rfl
          have c2 : W1.cell? ⟨w.heap.size, 2, none⟩ = some (.string (Ck.bs buf)) := hX.cell 2 _ rfl
          go_wp2_with (refine wpList_load_guard (by rfl) 33 (.tmp 1) rfl w.heap.size 0 rfl _ _ (hX.range 0 18) Tryz.underlying33 rfl (by kernel_rfl) ?_)
          refine (hL _ HR.out).mono ?_
          rintro en w1 ⟨rfl, hb1⟩
          go_wp2_with fail
          go_ret
          exact ⟨rfl, hB.trans (hb1.mono hB.size)⟩
        · rw [Bool.true_and]
          go_enter Tryz.func11, Tryz.ntmps11
          go_upto_region 1 with fail
          generalize World.alloc _ _ = W1 at hX hB HR ⊢
          have c17 : W1.cell? ⟨w.heap.size, 17, none⟩ = some (.int .i64 0) := hX.cell 17 _ rfl
          have c3 : W1.cell? ⟨w.heap.size, 3, none⟩ = some (.bool true) := hX.cell 3 _ rfl
          have c2 : W1.cell? ⟨w.heap.size, 2, none⟩ = some (.string (Ck.bs buf)) := hX.cell 2 _ rfl
          go_wp2_with (refine wpList_load_guard (by rfl) 33 (.tmp 1) rfl w.heap.size 0 rfl _ _ (hX.range 0 18) Tryz.underlying33 rfl (by kernel_rfl) ?_)
          refine (hL _ HR.out).mono ?_
          rintro en w1 ⟨rfl, hb1⟩
          replace hX := hX.below hb1
          replace hB := hB.trans (hb1.mono hB.size)
          have hR1 := HR.out.below hb1
          have HR1 := hide hR1
          clear hR1 HR hb1 c17 c3 c2
          go_wp2_with (refine wpList_load_guard (by rfl) 33 (.tmp 1) rfl w.heap.size 0 rfl _ _ (hX.range 0 18) Tryz.underlying33 rfl (by kernel_rfl) ?_)
          refine (hF _ HR1.out).mono ?_
          rintro en w2 ⟨rfl, hb2⟩
          go_wp2_with fail
          go_ret
          exact ⟨rfl, hB.trans (hb2.mono hB.size)⟩
  · rw [if_pos he]
    have heb : (e != 0) = true := by simpa using he
    cases hbb : decide (buf = [])
    · rw [hbb] at hbe
      rw [Bool.false_and, Bool.false_and]
      clear hbb
      go_enter Tryz.func11, Tryz.ntmps11
      go_upto_region 1 with fail
      generalize World.alloc _ _ = W1 at hX hB HR ⊢
      have c17 : W1.cell? ⟨w.heap.size, 17, none⟩ = some (.int .i64 e) := hX.cell 17 _ rfl
      have c3 : W1.cell? ⟨w.heap.size, 3, none⟩ = some (.bool i) := hX.cell 3 _ rfl
      have c2 : W1.cell? ⟨w.heap.size, 2, none⟩ = some (.string (Ck.bs buf)) := hX.cell 2 _ rfl
      go_wp2_with (refine wpList_load_guard (by rfl) 33 (.tmp 1) rfl w.heap.size 0 rfl _ _ (hX.range 0 18) Tryz.underlying33 rfl (by kernel_rfl) ?_)
      go_ret
      exact ⟨rfl, hB⟩
    · rw [hbb] at hbe
      rw [Bool.true_and]
      clear hbb
      cases i
      · rw [show (!false && P1) = P1 by cases P1 <;> rfl]
        go_enter Tryz.func11, Tryz.ntmps11
        go_upto_region 1 with fail
        generalize World.alloc _ _ = W1 at hX hB HR ⊢
        have c17 : W1.cell? ⟨w.heap.size, 17, none⟩ = some (.int .i64 e) := hX.cell 17 _ rfl
        have c3 : W1.cell? ⟨w.heap.size, 3, none⟩ = some (.bool false) := hX.cell 3 _ rfl
        have c2 : W1.cell? ⟨w.heap.size, 2, none⟩ = some (.string (Ck.bs buf)) := hX.cell 2 _ rfl
        go_wp2_with (refine wpList_load_guard (by rfl) 33 (.tmp 1) rfl w.heap.size 0 rfl _ _ (hX.range 0 18) Tryz.underlying33 rfl (by kernel_rfl) ?_)
        refine (hn _ HR.out).mono ?_
        rintro en w1 ⟨rfl, hb1⟩
        go_wp2_with fail
        go_ret
        exact ⟨rfl, hB.trans (hb1.mono hB.size)⟩
      · rw [show (!true && P1) = false from rfl]
        go_enter Tryz.func11, Tryz.ntmps11
        go_upto_region 1 with fail
        generalize World.alloc _ _ = W1 at hX hB HR ⊢
        have c17 : W1.cell? ⟨w.heap.size, 17, none⟩ = some (.int .i64 e) := hX.cell 17 _ rfl
        have c3 : W1.cell? ⟨w.heap.size, 3, none⟩ = some (.bool true) := hX.cell 3 _ rfl
        have c2 : W1.cell? ⟨w.heap.size, 2, none⟩ = some (.string (Ck.bs buf)) := hX.cell 2 _ rfl
        go_wp2_with (refine wpList_load_guard (by rfl) 33 (.tmp 1) rfl w.heap.size 0 rfl _ _ (hX.range 0 18) Tryz.underlying33 rfl (by kernel_rfl) ?_)
        go_ret
        exact ⟨rfl, hB⟩

end Go.Proofs.YtmpijlaidnhpnaaGreat
