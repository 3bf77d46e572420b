/- The walk of the document's own reading of a part. -/
import Derived.Test.YtkakinakjnpbjaaDoorPc
namespace Go.Proofs.YtkakinakjnpbjaaDoor
set_option linter.unusedVariables false
set_option linter.unusedSimpArgs false
open Go.RowKit

/-- A word lies in block N, and may be written. -/
structure Tri (W : World) (N : Nat) (x y z : ByteArray) : Prop where
  c0 : W.cell? ⟨N, 0, none⟩ = some (.string x)
  c1 : W.cell? ⟨N, 1, none⟩ = some (.string y)
  c2 : W.cell? ⟨N, 2, none⟩ = some (.string z)
  f0 : W.frozen? ⟨N, 0, none⟩ = false
  f1 : W.frozen? ⟨N, 1, none⟩ = false
  f2 : W.frozen? ⟨N, 2, none⟩ = false
theorem Tri.lt {W : World} {N : Nat} {x y z : ByteArray} (h : Tri W N x y z) : N < W.heap.size := block_lt_of_cell (a := ⟨N, 0, none⟩) h.c0
theorem Tri.below {W W' : World} {N : Nat} {x y z : ByteArray} (h : Tri W N x y z) (hb : Below W.heap.size W W') : Tri W' N x y z :=
  ⟨((stays hb).1 _ _ h.lt).trans h.c0, ((stays hb).1 _ _ h.lt).trans h.c1, ((stays hb).1 _ _ h.lt).trans h.c2, ((stays hb).2 _ _ h.lt).trans h.f0, ((stays hb).2 _ _ h.lt).trans h.f1, ((stays hb).2 _ _ h.lt).trans h.f2⟩
theorem Tri.alloc {W : World} {N : Nat} {x y z : ByteArray} (h : Tri W N x y z) (o : Obj) : Tri (W.alloc o) N x y z := h.below ((Below.refl _ _).alloc (Nat.le_refl _) _)
theorem Tri.new (W : World) (x y z : ByteArray) : Tri (W.alloc (.cells #[.string x, .string y, .string z] 31)) W.heap.size x y z := by
  constructor <;> go_simp
theorem Tri.set0 {W : World} {N : Nat} {x y z : ByteArray} (h : Tri W N x y z) (u : ByteArray) : Tri (W.setCell ⟨N, 0, none⟩ (.string u)) N u y z := by
  obtain ⟨c0, c1, c2, f0, f1, f2⟩ := h
  constructor <;> go_simp
theorem Tri.set1 {W : World} {N : Nat} {x y z : ByteArray} (h : Tri W N x y z) (u : ByteArray) : Tri (W.setCell ⟨N, 1, none⟩ (.string u)) N x u z := by
  obtain ⟨c0, c1, c2, f0, f1, f2⟩ := h
  constructor <;> go_simp
theorem Tri.set2 {W : World} {N : Nat} {x y z : ByteArray} (h : Tri W N x y z) (u : ByteArray) : Tri (W.setCell ⟨N, 2, none⟩ (.string u)) N x y u := by
  obtain ⟨c0, c1, c2, f0, f1, f2⟩ := h
  constructor <;> go_simp
theorem Tri.other {W : World} {N M : Nat} {x y z : ByteArray} (h : Tri W N x y z) (hM : M ≠ N) (k : Nat) (u : Value) : Tri (W.setCell ⟨M, k, none⟩ u) N x y z := by
  obtain ⟨c0, c1, c2, f0, f1, f2⟩ := h
  have hN : N ≠ M := fun e => hM e.symm
  constructor <;> go_simp

theorem tak_none {b : UInt8} {rd : List UInt8 → Option (List UInt8)} {s : List UInt8} (h : splitL b s = none) : takL b rd s = none := by unfold takL; rw [h]; rfl
theorem tak_one {b : UInt8} {rd : List UInt8 → Option (List UInt8)} {s a : List UInt8} (h : splitL b s = some [a]) : takL b rd s = some (a, []) := by unfold takL; rw [h]; rfl
theorem tak_two {b : UInt8} {rd : List UInt8 → Option (List UInt8)} {s a c : List UInt8} (h : splitL b s = some [a, c]) : takL b rd s = (rd c).map (fun v => (a, v)) := by unfold takL; rw [h]; rfl
theorem tak_many {b : UInt8} {rd : List UInt8 → Option (List UInt8)} {s a c d : List UInt8} {P : List (List UInt8)} (h : splitL b s = some (a :: c :: d :: P)) : takL b rd s = none := by unfold takL; rw [h]; rfl
theorem tok_unq {v : List UInt8} (h : tokL v = true) : quotedL v = false := by
  obtain ⟨h0, hm⟩ := tok_mem h
  unfold quotedL
  cases v with
  | nil => exact absurd rfl h0
  | cons c v =>
    have : c ≠ 34 := (word_not (hm c (by simp))).2.1
    simp [this]
theorem val_unq {v : List UInt8} (h : quotedL v = true) : valO v = some (unescL (midL v)) := by
  have : tokL v = false := by
    cases ht : tokL v
    · rfl
    · rw [tok_unq ht] at h; cases h
  unfold valO unqL
  rw [if_neg (by rw [this]; decide), if_pos h]
theorem val_tok {v : List UInt8} (h : quotedL v = false) : valO v = if tokL v then some v else none := by
  unfold valO unqL
  rw [h]
  simp

set_option maxHeartbeats 8000000 in
theorem refpart_any (s : ByteArray) (w : World) (hs : s.size ≤ 10000) :
    Calls Tryd.prog 22 #[.string s] w fun e w' => ∃ f ok, e = .returned (.tuple #[fv f, .bool ok]) ∧ Word (wordP s.data.toList) f ok ∧ Below w.heap.size w w' := by
  have hW0 : Below w.heap.size w ((w.alloc (.cells #[.string ⟨#[]⟩, .string ⟨#[]⟩, .string ⟨#[]⟩] 31)).alloc (.cells #[.string ⟨#[]⟩, .string ⟨#[]⟩, .string ⟨#[]⟩] 31)) := ((Below.refl _ w).alloc (Nat.le_refl _) _).alloc (by simp) _
  have hR0 : Tri ((w.alloc (.cells #[.string ⟨#[]⟩, .string ⟨#[]⟩, .string ⟨#[]⟩] 31)).alloc (.cells #[.string ⟨#[]⟩, .string ⟨#[]⟩, .string ⟨#[]⟩] 31)) w.heap.size ⟨#[]⟩ ⟨#[]⟩ ⟨#[]⟩ := (Tri.new w _ _ _).alloc _
  have hQ0 : Tri ((w.alloc (.cells #[.string ⟨#[]⟩, .string ⟨#[]⟩, .string ⟨#[]⟩] 31)).alloc (.cells #[.string ⟨#[]⟩, .string ⟨#[]⟩, .string ⟨#[]⟩] 31)) (w.heap.size + 1) ⟨#[]⟩ ⟨#[]⟩ ⟨#[]⟩ := by
    have := Tri.new (w.alloc (.cells #[.string ⟨#[]⟩, .string ⟨#[]⟩, .string ⟨#[]⟩] 31)) ⟨#[]⟩ ⟨#[]⟩ ⟨#[]⟩
    rwa [World.size_alloc] at this
  have HSP : Hid (∀ W, Calls Tryd.prog 21 #[.string s, .int .u8 59] W fun e w' => ∃ v, e = .returned (.tuple #[v, .int .i64 (spE 59 s : Nat)]) ∧ w'.ownsRow W.heap.size 9 1 v (spP 59 s).length (strs (spP 59 s)) ∧ Below W.heap.size W w') := fun W => refsplit_any s 59 W (by omega)
  have hN := split_ne 59 s.data.toList
  rcases hS : splitL 59 s.data.toList with _ | P
  · have HW := hide (word_bad1 (tak_none hS))
    rw [(sp_err hS).1, (sp_err hS).2] at HSP
    clear hN hS
    go_enter Tryd.func22, Tryd.ntmps22
    go_wp2_with fail
    generalize ((w.alloc (.cells #[.string ⟨#[]⟩, .string ⟨#[]⟩, .string ⟨#[]⟩] 31)).alloc (.cells #[.string ⟨#[]⟩, .string ⟨#[]⟩, .string ⟨#[]⟩] 31)) = W0 at *
    refine (HSP.out W0).mono ?_
    rintro e w1 ⟨v, rfl, ho, hb1⟩
    have hR1 := hR0.below hb1
    have hQ1 := hQ0.below hb1
    have hW1 := hW0.trans (hb1.mono hW0.size)
    have hz := hR0.lt
    have hz2 := hQ0.lt
    obtain ⟨m0, m1, m2, f0, f1, f2⟩ := hR1
    obtain ⟨p0, p1, p2, q0, q1, q2⟩ := hQ1
    clear hR0 hQ0
    go_wp2_with fail
    refine bodyPost_ret (v := .tuple #[.agg #[.string ⟨#[]⟩, .string ⟨#[]⟩, .string ⟨#[]⟩], .bool false]) (by simp [results, Tryd.results22, go_sem, p0, p1, p2, m0, m1, m2]) rfl ⟨(⟨#[]⟩, ⟨#[]⟩, ⟨#[]⟩), false, rfl, by rw [HW.out]; rfl, ?_⟩
    exact set3 hW1 _ (Nat.le_refl _) _ _ _
  · rw [(sp_okay hS).1, (sp_okay hS).2] at HSP
    have hpl := split_part hS
    rcases P with _ | ⟨a, _ | ⟨c, _ | ⟨d, P⟩⟩⟩
    · exact absurd hS hN
    · have ha := hpl a (by simp)
      have HA : Hid ((bs a).size ≤ 10000) := by unfold Hid; rw [bs_size]; rw [size_list] at ha; omega
      have h1 : Hid (takL 59 tokO s.data.toList = some (a, [])) := tak_one hS
      clear hN hS hpl ha
      go_enter Tryd.func22, Tryd.ntmps22
      go_wp2_with fail
      generalize ((w.alloc (.cells #[.string ⟨#[]⟩, .string ⟨#[]⟩, .string ⟨#[]⟩] 31)).alloc (.cells #[.string ⟨#[]⟩, .string ⟨#[]⟩, .string ⟨#[]⟩] 31)) = W0 at *
      refine (HSP.out W0).mono ?_
      rintro e w1 ⟨v, rfl, ho, hb1⟩
      have hR1 := hR0.below hb1
      have hQ1 := hQ0.below hb1
      have hW1 := hW0.trans (hb1.mono hW0.size)
      have hz := hR0.lt
      have hz2 := hQ0.lt
      obtain ⟨ad, cap, rfl, hRR⟩ := row_cell ho
      obtain ⟨g, rfl, hg0, hg1, r0⟩ := hRR 0 (by simp)
      simp only [List.getElem_cons_zero, List.length_cons, List.length_nil] at r0 ⊢
      clear hR0 hQ0 ho hRR
      have HSQ : Hid (∀ X, Calls Tryd.prog 21 #[.string (bs a), .int .u8 61] X fun e w' => ∃ v, e = .returned (.tuple #[v, .int .i64 (spE 61 (bs a) : Nat)]) ∧ w'.ownsRow X.heap.size 9 1 v (spP 61 (bs a)).length (strs (spP 61 (bs a))) ∧ Below X.heap.size X w') := fun X => refsplit_any (bs a) 61 X (by have := HA.out; omega)
      have hN2 := split_ne 61 a
      have hbl := bs_list a
      rcases hS2 : splitL 61 a with _ | P2
      · have HW := hide (word_bad2 h1.out (tak_none hS2))
        rw [← hbl] at hS2
        rw [(sp_err hS2).1, (sp_err hS2).2] at HSQ
        clear hN2 hS2
        go_wp2_with fail
        refine (HSQ.out _).mono ?_
        rintro e w3 ⟨v3, rfl, ho3, hb3⟩
        have hR3 := hR1.below hb3
        have hQ3 := hQ1.below hb3
        have hW3 := hW1.trans (hb3.mono hW1.size)
        obtain ⟨m0, m1, m2, f0, f1, f2⟩ := hR3
        obtain ⟨p0, p1, p2, q0, q1, q2⟩ := hQ3
        clear hR1 hQ1
        go_wp2_with fail
        refine bodyPost_ret (v := .tuple #[.agg #[.string ⟨#[]⟩, .string ⟨#[]⟩, .string ⟨#[]⟩], .bool false]) (by simp [results, Tryd.results22, go_sem, p0, p1, p2, m0, m1, m2]) rfl ⟨(⟨#[]⟩, ⟨#[]⟩, ⟨#[]⟩), false, rfl, by rw [HW.out]; rfl, ?_⟩
        exact set3 hW3 _ (Nat.le_refl _) _ _ _
      · have hS3 := hS2
        rw [← hbl] at hS3
        rw [(sp_okay hS3).1, (sp_okay hS3).2] at HSQ
        have hpl2 := split_part hS2
        rcases P2 with _ | ⟨n, _ | ⟨v, _ | ⟨d3, P2⟩⟩⟩
        · exact absurd hS2 hN2
        · have hnl := hpl2 n (by simp)
          have HNS : Hid ((bs n).size ≤ 1000000) := by unfold Hid; rw [bs_size]; have := HA.out; rw [bs_size] at this; omega
          have HT : Hid (tokB (bs n) = tokL n) := tok_bs n
          have HL : Hid (lowS (bs n) = bs (lowL n)) := low_bs n
          cases hn : tokL n
          · have HW := hide (word_bad3 h1.out (tak_one hS2) hn)
            rw [hn] at HT
            clear hN2 hS2 hS3 hpl2
            go_wp2_with fail
            refine (HSQ.out _).mono ?_
            rintro e w3 ⟨v3, rfl, ho3, hb3⟩
            have hR3 := hR1.below hb3
            have hQ3 := hQ1.below hb3
            have hW3 := hW1.trans (hb3.mono hW1.size)
            obtain ⟨ad3, cap3, rfl, hRR⟩ := row_cell ho3
            obtain ⟨g3, rfl, hg0, hg1, r0⟩ := hRR 0 (by simp)
            simp only [List.getElem_cons_zero, List.length_cons, List.length_nil] at r0 ⊢
            obtain ⟨m0, m1, m2, f0, f1, f2⟩ := hR3
            obtain ⟨p0, p1, p2, q0, q1, q2⟩ := hQ3
            clear hR1 hQ1 ho3 hRR
            go_wp2_with fail
            refine (reftoken_any (bs n) w3 HNS.out).mono ?_
            rintro e w4 ⟨rfl, rfl⟩
            rw [HT.out]
            go_wp2_with fail
            refine bodyPost_ret (v := .tuple #[.agg #[.string ⟨#[]⟩, .string ⟨#[]⟩, .string ⟨#[]⟩], .bool false]) (by simp [results, Tryd.results22, go_sem, p0, p1, p2, m0, m1, m2]) rfl ⟨(⟨#[]⟩, ⟨#[]⟩, ⟨#[]⟩), false, rfl, by rw [HW.out]; rfl, ?_⟩
            exact set3 hW3 _ (Nat.le_refl _) _ _ _
          · have HW := hide (word_good h1.out (tak_one (rd := valO) hS2) hn)
            rw [hn] at HT
            clear hN2 hS2 hS3 hpl2
            go_wp2_with fail
            refine (HSQ.out _).mono ?_
            rintro e w3 ⟨v3, rfl, ho3, hb3⟩
            have hR3 := hR1.below hb3
            have hQ3 := hQ1.below hb3
            have hW3 := hW1.trans (hb3.mono hW1.size)
            obtain ⟨ad3, cap3, rfl, hRR⟩ := row_cell ho3
            obtain ⟨g3, rfl, hg0, hg1, r0⟩ := hRR 0 (by simp)
            simp only [List.getElem_cons_zero, List.length_cons, List.length_nil] at r0 ⊢
            clear hR1 hQ1 ho3 hRR
            go_wp2_with fail
            refine (reftoken_any (bs n) w3 HNS.out).mono ?_
            rintro e w4 ⟨rfl, rfl⟩
            rw [HT.out]
            go_wp2_with fail
            refine (reflower_any (bs n) w4 HNS.out).mono ?_
            rintro e w5 ⟨rfl, hb5⟩
            rw [HL.out]
            have hR5 := hR3.below hb5
            have hQ5 := hQ3.below hb5
            have hW5 := hW3.trans (hb5.mono hW3.size)
            obtain ⟨m0, m1, m2, f0, f1, f2⟩ := hR5
            obtain ⟨p0, p1, p2, q0, q1, q2⟩ := hQ5
            clear hR3 hQ3
            go_wp2_with fail
            refine bodyPost_ret (v := .tuple #[.agg #[.string (bs (lowL n)), .string ⟨#[]⟩, .string ⟨#[]⟩], .bool true]) (by simp [results, Tryd.results22, go_sem, p0, p1, p2, m0, m1, m2]) rfl ⟨((bs (lowL n)), ⟨#[]⟩, ⟨#[]⟩), true, rfl, by rw [HW.out]; exact ⟨rfl, rfl⟩, ?_⟩
            exact set3 (hW5.setCell (p := ⟨w.heap.size + 1, 0, none⟩) (by simp) (.string (bs (lowL n)))) _ (Nat.le_refl _) _ _ _
        · have hnl := hpl2 n (by simp)
          have hvl := hpl2 v (by simp)
          have HNS : Hid ((bs n).size ≤ 1000000) := by unfold Hid; rw [bs_size]; have := HA.out; rw [bs_size] at this; omega
          have HVS : Hid ((bs v).size ≤ 1000000) := by unfold Hid; rw [bs_size]; have := HA.out; rw [bs_size] at this; omega
          have HT : Hid (tokB (bs n) = tokL n) := tok_bs n
          have HL : Hid (lowS (bs n) = bs (lowL n)) := low_bs n
          cases hn : tokL n
          · have HW : Hid (wordP s.data.toList = none) := by
              cases hq : valO v with
              | none => exact word_bad2 h1.out (by rw [tak_two hS2, hq]; rfl)
              | some y => exact word_bad3 h1.out (n := n) (v := y) (by rw [tak_two hS2, hq]; rfl) hn
            rw [hn] at HT
            clear hN2 hS2 hS3 hpl2
            go_wp2_with fail
            refine (HSQ.out _).mono ?_
            rintro e w3 ⟨v3, rfl, ho3, hb3⟩
            have hR3 := hR1.below hb3
            have hQ3 := hQ1.below hb3
            have hW3 := hW1.trans (hb3.mono hW1.size)
            obtain ⟨ad3, cap3, rfl, hRR⟩ := row_cell ho3
            obtain ⟨g3, rfl, hg0, hg1, r0⟩ := hRR 0 (by simp)
            simp only [List.getElem_cons_zero, List.length_cons, List.length_nil] at r0 ⊢
            obtain ⟨m0, m1, m2, f0, f1, f2⟩ := hR3
            obtain ⟨p0, p1, p2, q0, q1, q2⟩ := hQ3
            clear hR1 hQ1 ho3 hRR
            go_wp2_with fail
            refine (reftoken_any (bs n) w3 HNS.out).mono ?_
            rintro e w4 ⟨rfl, rfl⟩
            rw [HT.out]
            go_wp2_with fail
            refine bodyPost_ret (v := .tuple #[.agg #[.string ⟨#[]⟩, .string ⟨#[]⟩, .string ⟨#[]⟩], .bool false]) (by simp [results, Tryd.results22, go_sem, p0, p1, p2, m0, m1, m2]) rfl ⟨(⟨#[]⟩, ⟨#[]⟩, ⟨#[]⟩), false, rfl, by rw [HW.out]; rfl, ?_⟩
            exact set3 hW3 _ (Nat.le_refl _) _ _ _
          · rw [hn] at HT
            have HU : Hid (uE (bs v) = (if quotedL v then 0 else 11) ∧ uS (bs v) = if quotedL v then bs (unescL (midL v)) else ⟨#[]⟩) := by
              unfold Hid uE uS quoB; rw [bs_list]; exact ⟨rfl, rfl⟩
            have HTV : Hid (tokB (bs v) = tokL v) := tok_bs v
            have HK2 : Hid (takL 61 valO a = (valO v).map (fun y => (n, y))) := tak_two hS2
            clear hN2 hS2 hS3 hpl2
            go_wp2_with fail
            refine (HSQ.out _).mono ?_
            rintro e w3 ⟨v3, rfl, ho3, hb3⟩
            have hR3 := hR1.below hb3
            have hQ3 := hQ1.below hb3
            have hW3 := hW1.trans (hb3.mono hW1.size)
            obtain ⟨ad3, cap3, rfl, hRR⟩ := row_cell ho3
            obtain ⟨g3, rfl, hg0, hg1, r0⟩ := hRR 0 (by simp)
            obtain ⟨g4, hgg, -, -, r1⟩ := hRR 1 (by simp)
            obtain rfl : g3 = g4 := by simpa using hgg
            simp only [List.getElem_cons_zero, List.getElem_cons_succ, List.length_cons, List.length_nil] at r0 r1 ⊢
            clear hR1 hQ1 ho3 hRR hgg
            go_wp2_with fail
            refine (reftoken_any (bs n) w3 HNS.out).mono ?_
            rintro e w4 ⟨rfl, rfl⟩
            rw [HT.out]
            go_wp2_with fail
            refine (reflower_any (bs n) w4 HNS.out).mono ?_
            rintro e w5 ⟨rfl, hb5⟩
            rw [HL.out]
            have hR5 := hR3.below hb5
            have hQ5 := hQ3.below hb5
            have hW5 := hW3.trans (hb5.mono hW3.size)
            rw [← (stays hb5).1 _ _ hg1] at r0 r1
            have hz5 := hR5.lt
            have hg5 : g3 < w5.heap.size := Nat.lt_of_lt_of_le hg1 hb5.size
            have hgQ : g3 ≠ w.heap.size + 1 := by (try simp at hg0); omega
            have hgR : g3 ≠ w.heap.size := by (try simp at hg0); omega
            clear hR3 hQ3
            have hW6 := (hW5.setCell (p := ⟨w.heap.size + 1, 0, none⟩) (by simp) (.string (bs (lowL n)))).setCell (p := ⟨w.heap.size + 1, 1, none⟩) (by simp) (.string (bs v))
            have hR6 := (hR5.other (M := w.heap.size + 1) (by omega) 0 (.string (bs (lowL n)))).other (M := w.heap.size + 1) (by omega) 1 (.string (bs v))
            have hQ6 := (hQ5.set0 (bs (lowL n))).set1 (bs v)
            have r06 : ((w5.setCell ⟨w.heap.size + 1, 0, none⟩ (.string (bs (lowL n)))).setCell ⟨w.heap.size + 1, 1, none⟩ (.string (bs v))).cell? ⟨g3, 0, none⟩ = some (.string (bs n)) := by go_simp
            have r16 : ((w5.setCell ⟨w.heap.size + 1, 0, none⟩ (.string (bs (lowL n)))).setCell ⟨w.heap.size + 1, 1, none⟩ (.string (bs v))).cell? ⟨g3, 1, none⟩ = some (.string (bs v)) := by go_simp
            obtain ⟨m0, m1, m2, f0, f1, f2⟩ := hR5
            obtain ⟨p0, p1, p2, q0, q1, q2⟩ := hQ5
            go_wp2_with fail
            clear m0 m1 m2 f0 f1 f2 p0 p1 p2 q0 q1 q2 r0 r1 hb5
            generalize ((w5.setCell ⟨w.heap.size + 1, 0, none⟩ (.string (bs (lowL n)))).setCell ⟨w.heap.size + 1, 1, none⟩ (.string (bs v))) = W6 at *
            refine (refunquote_any (bs v) W6 HVS.out).mono ?_
            rintro e w7 ⟨rfl, rfl⟩
            rw [HU.out.1, HU.out.2]
            obtain ⟨m0, m1, m2, f0, f1, f2⟩ := hR6
            obtain ⟨p0, p1, p2, q0, q1, q2⟩ := hQ6
            cases hq : quotedL v
            · have HVT := hide (val_tok hq)
              simp only [Bool.false_eq_true, if_false]
              go_wp2_with fail
              cases ht : tokL v
              · rw [ht] at HVT
                have HW := hide (word_bad2 h1.out (by rw [HK2.out, HVT.out]; rfl))
                have x0 : w7.drew.cell? ⟨w.heap.size, 0, none⟩ = some (.string ⟨#[]⟩) := m0
                have x1 : w7.drew.cell? ⟨w.heap.size, 1, none⟩ = some (.string ⟨#[]⟩) := m1
                have x2 : w7.drew.cell? ⟨w.heap.size, 2, none⟩ = some (.string ⟨#[]⟩) := m2
                have y0 : w7.drew.frozen? ⟨w.heap.size, 0, none⟩ = false := f0
                have y1 : w7.drew.frozen? ⟨w.heap.size, 1, none⟩ = false := f1
                have y2 : w7.drew.frozen? ⟨w.heap.size, 2, none⟩ = false := f2
                go_region_held3 (fun w' => w'.cell? ⟨w.heap.size + 1, 0, none⟩ = some (.string (bs (lowL n))) ∧ w'.cell? ⟨w.heap.size + 1, 1, none⟩ = some (.string (bs v)) ∧ w'.cell? ⟨w.heap.size + 1, 2, none⟩ = some (.string ⟨#[]⟩) ∧ w'.cell? ⟨g3, 1, none⟩ = some (.string (bs v)))
                  (first | exact ⟨p0, p1, p2, r16⟩ | assumption | (refine ⟨?_, ?_, ?_, ?_⟩ <;> go_simp))
                  (first | (go_at_call 17; refine (reftoken_any (bs v) _ HVS.out).mono ?_; rintro e w8 ⟨rfl, rfl⟩; rw [HTV.out, ht]))
                go_wp2_with fail
                refine bodyPost_ret (v := .tuple #[.agg #[.string (bs (lowL n)), .string (bs v), .string ⟨#[]⟩], .bool false]) (by simp [results, Tryd.results22, go_sem, p0, p1, p2, m0, m1, m2]) rfl ⟨((bs (lowL n)), (bs v), ⟨#[]⟩), false, rfl, by rw [HW.out]; rfl, ?_⟩
                exact set3 hW6.drew _ (Nat.le_refl _) _ _ _
              · rw [ht] at HVT
                have HW := hide (word_good h1.out (n := n) (v := v) (by rw [HK2.out, HVT.out]; rfl) hn)
                have x0 : w7.drew.cell? ⟨w.heap.size, 0, none⟩ = some (.string ⟨#[]⟩) := m0
                have x1 : w7.drew.cell? ⟨w.heap.size, 1, none⟩ = some (.string ⟨#[]⟩) := m1
                have x2 : w7.drew.cell? ⟨w.heap.size, 2, none⟩ = some (.string ⟨#[]⟩) := m2
                have y0 : w7.drew.frozen? ⟨w.heap.size, 0, none⟩ = false := f0
                have y1 : w7.drew.frozen? ⟨w.heap.size, 1, none⟩ = false := f1
                have y2 : w7.drew.frozen? ⟨w.heap.size, 2, none⟩ = false := f2
                go_region_held3 (fun w' => w'.cell? ⟨w.heap.size + 1, 0, none⟩ = some (.string (bs (lowL n))) ∧ w'.cell? ⟨w.heap.size + 1, 1, none⟩ = some (.string (bs v)) ∧ w'.cell? ⟨w.heap.size + 1, 2, none⟩ = some (.string ⟨#[]⟩) ∧ w'.cell? ⟨g3, 1, none⟩ = some (.string (bs v)))
                  (first | exact ⟨p0, p1, p2, r16⟩ | assumption | (refine ⟨?_, ?_, ?_, ?_⟩ <;> go_simp))
                  (first | (go_at_call 17; refine (reftoken_any (bs v) _ HVS.out).mono ?_; rintro e w8 ⟨rfl, rfl⟩; rw [HTV.out, ht]))
                go_wp2_with fail
                refine bodyPost_ret (v := .tuple #[.agg #[.string (bs (lowL n)), .string (bs v), .string ⟨#[]⟩], .bool true]) (by simp [results, Tryd.results22, go_sem, p0, p1, p2, m0, m1, m2]) rfl ⟨((bs (lowL n)), (bs v), ⟨#[]⟩), true, rfl, by rw [HW.out]; exact ⟨rfl, rfl⟩, ?_⟩
                exact set3 hW6.drew _ (Nat.le_refl _) _ _ _
            · have HW := hide (word_good h1.out (n := n) (v := unescL (midL v)) (by rw [HK2.out, val_unq hq]; rfl) hn)
              simp only [if_true]
              go_wp2_with fail
              refine bodyPost_ret (v := .tuple #[.agg #[.string (bs (lowL n)), .string (bs (unescL (midL v))), .string ⟨#[]⟩], .bool true]) (by simp [results, Tryd.results22, go_sem, p0, p1, p2, m0, m1, m2]) rfl ⟨((bs (lowL n)), (bs (unescL (midL v))), ⟨#[]⟩), true, rfl, by rw [HW.out]; exact ⟨rfl, rfl⟩, ?_⟩
              exact set3 (hW6.setCell (p := ⟨w.heap.size + 1, 1, none⟩) (by simp) (.string (bs (unescL (midL v))))) _ (Nat.le_refl _) _ _ _
        · have HW := hide (word_bad2 h1.out (tak_many hS2))
          obtain ⟨k3, hL3, hk3⟩ : ∃ m, (n :: v :: d3 :: P2).length = m ∧ 3 ≤ m := ⟨_, rfl, by simp⟩
          have hd3 : decide ((2 : Int) < (k3 : Int)) = true := decide_eq_true (by omega)
          generalize (n :: v :: d3 :: P2) = Q2 at *
          clear hN2 hS2 hS3 hpl2
          go_wp2_with fail
          refine (HSQ.out _).mono ?_
          rintro e w3 ⟨v3, rfl, ho3, hb3⟩
          have hR3 := hR1.below hb3
          have hQ3 := hQ1.below hb3
          have hW3 := hW1.trans (hb3.mono hW1.size)
          obtain ⟨ad3, cap3, rfl, -⟩ := row_cell ho3
          rw [hL3]
          obtain ⟨m0, m1, m2, f0, f1, f2⟩ := hR3
          obtain ⟨p0, p1, p2, q0, q1, q2⟩ := hQ3
          clear hR1 hQ1 ho3
          go_wp2_with fail
          refine bodyPost_ret (v := .tuple #[.agg #[.string ⟨#[]⟩, .string ⟨#[]⟩, .string ⟨#[]⟩], .bool false]) (by simp [results, Tryd.results22, go_sem, p0, p1, p2, m0, m1, m2]) rfl ⟨(⟨#[]⟩, ⟨#[]⟩, ⟨#[]⟩), false, rfl, by rw [HW.out]; rfl, ?_⟩
          exact set3 hW3 _ (Nat.le_refl _) _ _ _
    · have ha := hpl a (by simp)
      have hc := hpl c (by simp)
      have HA : Hid ((bs a).size ≤ 10000) := by unfold Hid; rw [bs_size]; rw [size_list] at ha; omega
      have HC : Hid ((bs c).size ≤ 1000000) := by unfold Hid; rw [bs_size]; rw [size_list] at hc; omega
      have HTC : Hid (tokB (bs c) = tokL c) := tok_bs c
      have h0 : takL 59 tokO s.data.toList = (tokO c).map (fun y => (a, y)) := tak_two hS
      clear hN hS hpl ha hc
      cases hct : tokL c
      · have HW : Hid (wordP s.data.toList = none) := word_bad1 (by rw [h0]; unfold tokO; rw [if_neg (by rw [hct]; decide)]; rfl)
        rw [hct] at HTC
        clear h0
        go_enter Tryd.func22, Tryd.ntmps22
        go_wp2_with fail
        generalize ((w.alloc (.cells #[.string ⟨#[]⟩, .string ⟨#[]⟩, .string ⟨#[]⟩] 31)).alloc (.cells #[.string ⟨#[]⟩, .string ⟨#[]⟩, .string ⟨#[]⟩] 31)) = W0 at *
        refine (HSP.out W0).mono ?_
        rintro e w1 ⟨v, rfl, ho, hb1⟩
        have hR1 := hR0.below hb1
        have hQ1 := hQ0.below hb1
        have hW1 := hW0.trans (hb1.mono hW0.size)
        have hz := hR0.lt
        have hz2 := hQ0.lt
        obtain ⟨ad, cap, rfl, hRR⟩ := row_cell ho
        obtain ⟨g, rfl, hg0, hg1, r0⟩ := hRR 0 (by simp)
        obtain ⟨g4, hgg, -, -, r1⟩ := hRR 1 (by simp)
        obtain rfl : g = g4 := by simpa using hgg
        simp only [List.getElem_cons_zero, List.getElem_cons_succ, List.length_cons, List.length_nil] at r0 r1 ⊢
        obtain ⟨m0, m1, m2, f0, f1, f2⟩ := hR1
        obtain ⟨p0, p1, p2, q0, q1, q2⟩ := hQ1
        clear hR0 hQ0 ho hRR hgg
        go_wp2_with fail
        refine (reftoken_any (bs c) w1 HC.out).mono ?_
        rintro e w2 ⟨rfl, rfl⟩
        rw [HTC.out]
        go_wp2_with fail
        refine bodyPost_ret (v := .tuple #[.agg #[.string ⟨#[]⟩, .string ⟨#[]⟩, .string ⟨#[]⟩], .bool false]) (by simp [results, Tryd.results22, go_sem, p0, p1, p2, m0, m1, m2]) rfl ⟨(⟨#[]⟩, ⟨#[]⟩, ⟨#[]⟩), false, rfl, by rw [HW.out]; rfl, ?_⟩
        exact set3 hW1 _ (Nat.le_refl _) _ _ _
      · have h1 : Hid (takL 59 tokO s.data.toList = some (a, c)) := by unfold Hid; rw [h0]; unfold tokO; rw [if_pos hct]; rfl
        rw [hct] at HTC
        clear h0
        go_enter Tryd.func22, Tryd.ntmps22
        go_wp2_with fail
        generalize ((w.alloc (.cells #[.string ⟨#[]⟩, .string ⟨#[]⟩, .string ⟨#[]⟩] 31)).alloc (.cells #[.string ⟨#[]⟩, .string ⟨#[]⟩, .string ⟨#[]⟩] 31)) = W0 at *
        refine (HSP.out W0).mono ?_
        rintro e w1 ⟨v, rfl, ho, hb1⟩
        have hR1 := hR0.below hb1
        have hQ1 := hQ0.below hb1
        have hW1 := hW0.trans (hb1.mono hW0.size)
        have hz := hR0.lt
        have hz2 := hQ0.lt
        obtain ⟨ad, cap, rfl, hRR⟩ := row_cell ho
        obtain ⟨g, rfl, hg0, hg1, r0⟩ := hRR 0 (by simp)
        obtain ⟨g4, hgg, -, -, r1⟩ := hRR 1 (by simp)
        obtain rfl : g = g4 := by simpa using hgg
        simp only [List.getElem_cons_zero, List.getElem_cons_succ, List.length_cons, List.length_nil] at r0 r1 ⊢
        clear hR0 hQ0 ho hRR hgg
        go_wp2_with fail
        refine (reftoken_any (bs c) w1 HC.out).mono ?_
        rintro e w2 ⟨rfl, rfl⟩
        rw [HTC.out]
        have hgQ : g ≠ w.heap.size + 1 := by omega
        have t2 := hQ1.c2
        have u2 := hQ1.f2
        have hW2 := hW1.setCell (p := ⟨w.heap.size + 1, 2, none⟩) (by simp) (.string (bs c))
        have hR2 := hR1.other (M := w.heap.size + 1) (by omega) 2 (.string (bs c))
        have hQ2 := hQ1.set2 (bs c)
        clear hQ1 hR1
        have HSQ : Hid (∀ X, Calls Tryd.prog 21 #[.string (bs a), .int .u8 61] X fun e w' => ∃ v, e = .returned (.tuple #[v, .int .i64 (spE 61 (bs a) : Nat)]) ∧ w'.ownsRow X.heap.size 9 1 v (spP 61 (bs a)).length (strs (spP 61 (bs a))) ∧ Below X.heap.size X w') := fun X => refsplit_any (bs a) 61 X (by have := HA.out; omega)
        have hN2 := split_ne 61 a
        have hbl := bs_list a
        rcases hS2 : splitL 61 a with _ | P2
        · have HW := hide (word_bad2 h1.out (tak_none hS2))
          rw [← hbl] at hS2
          rw [(sp_err hS2).1, (sp_err hS2).2] at HSQ
          clear hN2 hS2
          go_wp2_with fail
          refine (HSQ.out _).mono ?_
          rintro e w3 ⟨v3, rfl, ho3, hb3⟩
          have hR3 := hR2.below hb3
          have hQ3 := hQ2.below hb3
          have hW3 := hW2.trans (hb3.mono hW2.size)
          obtain ⟨m0, m1, m2, f0, f1, f2⟩ := hR3
          obtain ⟨p0, p1, p2, q0, q1, q2⟩ := hQ3
          clear hR2 hQ2
          go_wp2_with fail
          refine bodyPost_ret (v := .tuple #[.agg #[.string ⟨#[]⟩, .string ⟨#[]⟩, .string (bs c)], .bool false]) (by simp [results, Tryd.results22, go_sem, p0, p1, p2, m0, m1, m2]) rfl ⟨(⟨#[]⟩, ⟨#[]⟩, (bs c)), false, rfl, by rw [HW.out]; rfl, ?_⟩
          exact set3 hW3 _ (Nat.le_refl _) _ _ _
        · have hS3 := hS2
          rw [← hbl] at hS3
          rw [(sp_okay hS3).1, (sp_okay hS3).2] at HSQ
          have hpl2 := split_part hS2
          rcases P2 with _ | ⟨n, _ | ⟨v, _ | ⟨d3, P2⟩⟩⟩
          · exact absurd hS2 hN2
          · have hnl := hpl2 n (by simp)
            have HNS : Hid ((bs n).size ≤ 1000000) := by unfold Hid; rw [bs_size]; have := HA.out; rw [bs_size] at this; omega
            have HT : Hid (tokB (bs n) = tokL n) := tok_bs n
            have HL : Hid (lowS (bs n) = bs (lowL n)) := low_bs n
            cases hn : tokL n
            · have HW := hide (word_bad3 h1.out (tak_one hS2) hn)
              rw [hn] at HT
              clear hN2 hS2 hS3 hpl2
              go_wp2_with fail
              refine (HSQ.out _).mono ?_
              rintro e w3 ⟨v3, rfl, ho3, hb3⟩
              have hR3 := hR2.below hb3
              have hQ3 := hQ2.below hb3
              have hW3 := hW2.trans (hb3.mono hW2.size)
              obtain ⟨ad3, cap3, rfl, hRR⟩ := row_cell ho3
              obtain ⟨g3, rfl, hg0, hg1, r0⟩ := hRR 0 (by simp)
              simp only [List.getElem_cons_zero, List.length_cons, List.length_nil] at r0 ⊢
              obtain ⟨m0, m1, m2, f0, f1, f2⟩ := hR3
              obtain ⟨p0, p1, p2, q0, q1, q2⟩ := hQ3
              clear hR2 hQ2 ho3 hRR
              go_wp2_with fail
              refine (reftoken_any (bs n) w3 HNS.out).mono ?_
              rintro e w4 ⟨rfl, rfl⟩
              rw [HT.out]
              go_wp2_with fail
              refine bodyPost_ret (v := .tuple #[.agg #[.string ⟨#[]⟩, .string ⟨#[]⟩, .string (bs c)], .bool false]) (by simp [results, Tryd.results22, go_sem, p0, p1, p2, m0, m1, m2]) rfl ⟨(⟨#[]⟩, ⟨#[]⟩, (bs c)), false, rfl, by rw [HW.out]; rfl, ?_⟩
              exact set3 hW3 _ (Nat.le_refl _) _ _ _
            · have HW := hide (word_good h1.out (tak_one (rd := valO) hS2) hn)
              rw [hn] at HT
              clear hN2 hS2 hS3 hpl2
              go_wp2_with fail
              refine (HSQ.out _).mono ?_
              rintro e w3 ⟨v3, rfl, ho3, hb3⟩
              have hR3 := hR2.below hb3
              have hQ3 := hQ2.below hb3
              have hW3 := hW2.trans (hb3.mono hW2.size)
              obtain ⟨ad3, cap3, rfl, hRR⟩ := row_cell ho3
              obtain ⟨g3, rfl, hg0, hg1, r0⟩ := hRR 0 (by simp)
              simp only [List.getElem_cons_zero, List.length_cons, List.length_nil] at r0 ⊢
              clear hR2 hQ2 ho3 hRR
              go_wp2_with fail
              refine (reftoken_any (bs n) w3 HNS.out).mono ?_
              rintro e w4 ⟨rfl, rfl⟩
              rw [HT.out]
              go_wp2_with fail
              refine (reflower_any (bs n) w4 HNS.out).mono ?_
              rintro e w5 ⟨rfl, hb5⟩
              rw [HL.out]
              have hR5 := hR3.below hb5
              have hQ5 := hQ3.below hb5
              have hW5 := hW3.trans (hb5.mono hW3.size)
              obtain ⟨m0, m1, m2, f0, f1, f2⟩ := hR5
              obtain ⟨p0, p1, p2, q0, q1, q2⟩ := hQ5
              clear hR3 hQ3
              go_wp2_with fail
              refine bodyPost_ret (v := .tuple #[.agg #[.string (bs (lowL n)), .string ⟨#[]⟩, .string (bs c)], .bool true]) (by simp [results, Tryd.results22, go_sem, p0, p1, p2, m0, m1, m2]) rfl ⟨((bs (lowL n)), ⟨#[]⟩, (bs c)), true, rfl, by rw [HW.out]; exact ⟨rfl, rfl⟩, ?_⟩
              exact set3 (hW5.setCell (p := ⟨w.heap.size + 1, 0, none⟩) (by simp) (.string (bs (lowL n)))) _ (Nat.le_refl _) _ _ _
          · have hnl := hpl2 n (by simp)
            have hvl := hpl2 v (by simp)
            have HNS : Hid ((bs n).size ≤ 1000000) := by unfold Hid; rw [bs_size]; have := HA.out; rw [bs_size] at this; omega
            have HVS : Hid ((bs v).size ≤ 1000000) := by unfold Hid; rw [bs_size]; have := HA.out; rw [bs_size] at this; omega
            have HT : Hid (tokB (bs n) = tokL n) := tok_bs n
            have HL : Hid (lowS (bs n) = bs (lowL n)) := low_bs n
            cases hn : tokL n
            · have HW : Hid (wordP s.data.toList = none) := by
                cases hq : valO v with
                | none => exact word_bad2 h1.out (by rw [tak_two hS2, hq]; rfl)
                | some y => exact word_bad3 h1.out (n := n) (v := y) (by rw [tak_two hS2, hq]; rfl) hn
              rw [hn] at HT
              clear hN2 hS2 hS3 hpl2
              go_wp2_with fail
              refine (HSQ.out _).mono ?_
              rintro e w3 ⟨v3, rfl, ho3, hb3⟩
              have hR3 := hR2.below hb3
              have hQ3 := hQ2.below hb3
              have hW3 := hW2.trans (hb3.mono hW2.size)
              obtain ⟨ad3, cap3, rfl, hRR⟩ := row_cell ho3
              obtain ⟨g3, rfl, hg0, hg1, r0⟩ := hRR 0 (by simp)
              simp only [List.getElem_cons_zero, List.length_cons, List.length_nil] at r0 ⊢
              obtain ⟨m0, m1, m2, f0, f1, f2⟩ := hR3
              obtain ⟨p0, p1, p2, q0, q1, q2⟩ := hQ3
              clear hR2 hQ2 ho3 hRR
              go_wp2_with fail
              refine (reftoken_any (bs n) w3 HNS.out).mono ?_
              rintro e w4 ⟨rfl, rfl⟩
              rw [HT.out]
              go_wp2_with fail
              refine bodyPost_ret (v := .tuple #[.agg #[.string ⟨#[]⟩, .string ⟨#[]⟩, .string (bs c)], .bool false]) (by simp [results, Tryd.results22, go_sem, p0, p1, p2, m0, m1, m2]) rfl ⟨(⟨#[]⟩, ⟨#[]⟩, (bs c)), false, rfl, by rw [HW.out]; rfl, ?_⟩
              exact set3 hW3 _ (Nat.le_refl _) _ _ _
            · rw [hn] at HT
              have HU : Hid (uE (bs v) = (if quotedL v then 0 else 11) ∧ uS (bs v) = if quotedL v then bs (unescL (midL v)) else ⟨#[]⟩) := by
                unfold Hid uE uS quoB; rw [bs_list]; exact ⟨rfl, rfl⟩
              have HTV : Hid (tokB (bs v) = tokL v) := tok_bs v
              have HK2 : Hid (takL 61 valO a = (valO v).map (fun y => (n, y))) := tak_two hS2
              clear hN2 hS2 hS3 hpl2
              go_wp2_with fail
              refine (HSQ.out _).mono ?_
              rintro e w3 ⟨v3, rfl, ho3, hb3⟩
              have hR3 := hR2.below hb3
              have hQ3 := hQ2.below hb3
              have hW3 := hW2.trans (hb3.mono hW2.size)
              obtain ⟨ad3, cap3, rfl, hRR⟩ := row_cell ho3
              obtain ⟨g3, rfl, hg0, hg1, r0⟩ := hRR 0 (by simp)
              obtain ⟨g4, hgg, -, -, r1⟩ := hRR 1 (by simp)
              obtain rfl : g3 = g4 := by simpa using hgg
              simp only [List.getElem_cons_zero, List.getElem_cons_succ, List.length_cons, List.length_nil] at r0 r1 ⊢
              clear hR2 hQ2 ho3 hRR hgg
              go_wp2_with fail
              refine (reftoken_any (bs n) w3 HNS.out).mono ?_
              rintro e w4 ⟨rfl, rfl⟩
              rw [HT.out]
              go_wp2_with fail
              refine (reflower_any (bs n) w4 HNS.out).mono ?_
              rintro e w5 ⟨rfl, hb5⟩
              rw [HL.out]
              have hR5 := hR3.below hb5
              have hQ5 := hQ3.below hb5
              have hW5 := hW3.trans (hb5.mono hW3.size)
              rw [← (stays hb5).1 _ _ hg1] at r0 r1
              have hz5 := hR5.lt
              have hg5 : g3 < w5.heap.size := Nat.lt_of_lt_of_le hg1 hb5.size
              have hgQ : g3 ≠ w.heap.size + 1 := by (try simp at hg0); omega
              have hgR : g3 ≠ w.heap.size := by (try simp at hg0); omega
              clear hR3 hQ3
              have hW6 := (hW5.setCell (p := ⟨w.heap.size + 1, 0, none⟩) (by simp) (.string (bs (lowL n)))).setCell (p := ⟨w.heap.size + 1, 1, none⟩) (by simp) (.string (bs v))
              have hR6 := (hR5.other (M := w.heap.size + 1) (by omega) 0 (.string (bs (lowL n)))).other (M := w.heap.size + 1) (by omega) 1 (.string (bs v))
              have hQ6 := (hQ5.set0 (bs (lowL n))).set1 (bs v)
              have r06 : ((w5.setCell ⟨w.heap.size + 1, 0, none⟩ (.string (bs (lowL n)))).setCell ⟨w.heap.size + 1, 1, none⟩ (.string (bs v))).cell? ⟨g3, 0, none⟩ = some (.string (bs n)) := by go_simp
              have r16 : ((w5.setCell ⟨w.heap.size + 1, 0, none⟩ (.string (bs (lowL n)))).setCell ⟨w.heap.size + 1, 1, none⟩ (.string (bs v))).cell? ⟨g3, 1, none⟩ = some (.string (bs v)) := by go_simp
              obtain ⟨m0, m1, m2, f0, f1, f2⟩ := hR5
              obtain ⟨p0, p1, p2, q0, q1, q2⟩ := hQ5
              go_wp2_with fail
              clear m0 m1 m2 f0 f1 f2 p0 p1 p2 q0 q1 q2 r0 r1 hb5
              generalize ((w5.setCell ⟨w.heap.size + 1, 0, none⟩ (.string (bs (lowL n)))).setCell ⟨w.heap.size + 1, 1, none⟩ (.string (bs v))) = W6 at *
              refine (refunquote_any (bs v) W6 HVS.out).mono ?_
              rintro e w7 ⟨rfl, rfl⟩
              rw [HU.out.1, HU.out.2]
              obtain ⟨m0, m1, m2, f0, f1, f2⟩ := hR6
              obtain ⟨p0, p1, p2, q0, q1, q2⟩ := hQ6
              cases hq : quotedL v
              · have HVT := hide (val_tok hq)
                simp only [Bool.false_eq_true, if_false]
                go_wp2_with fail
                cases ht : tokL v
                · rw [ht] at HVT
                  have HW := hide (word_bad2 h1.out (by rw [HK2.out, HVT.out]; rfl))
                  have x0 : w7.drew.cell? ⟨w.heap.size, 0, none⟩ = some (.string ⟨#[]⟩) := m0
                  have x1 : w7.drew.cell? ⟨w.heap.size, 1, none⟩ = some (.string ⟨#[]⟩) := m1
                  have x2 : w7.drew.cell? ⟨w.heap.size, 2, none⟩ = some (.string ⟨#[]⟩) := m2
                  have y0 : w7.drew.frozen? ⟨w.heap.size, 0, none⟩ = false := f0
                  have y1 : w7.drew.frozen? ⟨w.heap.size, 1, none⟩ = false := f1
                  have y2 : w7.drew.frozen? ⟨w.heap.size, 2, none⟩ = false := f2
                  go_region_held3 (fun w' => w'.cell? ⟨w.heap.size + 1, 0, none⟩ = some (.string (bs (lowL n))) ∧ w'.cell? ⟨w.heap.size + 1, 1, none⟩ = some (.string (bs v)) ∧ w'.cell? ⟨w.heap.size + 1, 2, none⟩ = some (.string (bs c)) ∧ w'.cell? ⟨g3, 1, none⟩ = some (.string (bs v)))
                    (first | exact ⟨p0, p1, p2, r16⟩ | assumption | (refine ⟨?_, ?_, ?_, ?_⟩ <;> go_simp))
                    (first | (go_at_call 17; refine (reftoken_any (bs v) _ HVS.out).mono ?_; rintro e w8 ⟨rfl, rfl⟩; rw [HTV.out, ht]))
                  go_wp2_with fail
                  refine bodyPost_ret (v := .tuple #[.agg #[.string (bs (lowL n)), .string (bs v), .string (bs c)], .bool false]) (by simp [results, Tryd.results22, go_sem, p0, p1, p2, m0, m1, m2]) rfl ⟨((bs (lowL n)), (bs v), (bs c)), false, rfl, by rw [HW.out]; rfl, ?_⟩
                  exact set3 hW6.drew _ (Nat.le_refl _) _ _ _
                · rw [ht] at HVT
                  have HW := hide (word_good h1.out (n := n) (v := v) (by rw [HK2.out, HVT.out]; rfl) hn)
                  have x0 : w7.drew.cell? ⟨w.heap.size, 0, none⟩ = some (.string ⟨#[]⟩) := m0
                  have x1 : w7.drew.cell? ⟨w.heap.size, 1, none⟩ = some (.string ⟨#[]⟩) := m1
                  have x2 : w7.drew.cell? ⟨w.heap.size, 2, none⟩ = some (.string ⟨#[]⟩) := m2
                  have y0 : w7.drew.frozen? ⟨w.heap.size, 0, none⟩ = false := f0
                  have y1 : w7.drew.frozen? ⟨w.heap.size, 1, none⟩ = false := f1
                  have y2 : w7.drew.frozen? ⟨w.heap.size, 2, none⟩ = false := f2
                  go_region_held3 (fun w' => w'.cell? ⟨w.heap.size + 1, 0, none⟩ = some (.string (bs (lowL n))) ∧ w'.cell? ⟨w.heap.size + 1, 1, none⟩ = some (.string (bs v)) ∧ w'.cell? ⟨w.heap.size + 1, 2, none⟩ = some (.string (bs c)) ∧ w'.cell? ⟨g3, 1, none⟩ = some (.string (bs v)))
                    (first | exact ⟨p0, p1, p2, r16⟩ | assumption | (refine ⟨?_, ?_, ?_, ?_⟩ <;> go_simp))
                    (first | (go_at_call 17; refine (reftoken_any (bs v) _ HVS.out).mono ?_; rintro e w8 ⟨rfl, rfl⟩; rw [HTV.out, ht]))
                  go_wp2_with fail
                  refine bodyPost_ret (v := .tuple #[.agg #[.string (bs (lowL n)), .string (bs v), .string (bs c)], .bool true]) (by simp [results, Tryd.results22, go_sem, p0, p1, p2, m0, m1, m2]) rfl ⟨((bs (lowL n)), (bs v), (bs c)), true, rfl, by rw [HW.out]; exact ⟨rfl, rfl⟩, ?_⟩
                  exact set3 hW6.drew _ (Nat.le_refl _) _ _ _
              · have HW := hide (word_good h1.out (n := n) (v := unescL (midL v)) (by rw [HK2.out, val_unq hq]; rfl) hn)
                simp only [if_true]
                go_wp2_with fail
                refine bodyPost_ret (v := .tuple #[.agg #[.string (bs (lowL n)), .string (bs (unescL (midL v))), .string (bs c)], .bool true]) (by simp [results, Tryd.results22, go_sem, p0, p1, p2, m0, m1, m2]) rfl ⟨((bs (lowL n)), (bs (unescL (midL v))), (bs c)), true, rfl, by rw [HW.out]; exact ⟨rfl, rfl⟩, ?_⟩
                exact set3 (hW6.setCell (p := ⟨w.heap.size + 1, 1, none⟩) (by simp) (.string (bs (unescL (midL v))))) _ (Nat.le_refl _) _ _ _
          · have HW := hide (word_bad2 h1.out (tak_many hS2))
            obtain ⟨k3, hL3, hk3⟩ : ∃ m, (n :: v :: d3 :: P2).length = m ∧ 3 ≤ m := ⟨_, rfl, by simp⟩
            have hd3 : decide ((2 : Int) < (k3 : Int)) = true := decide_eq_true (by omega)
            generalize (n :: v :: d3 :: P2) = Q2 at *
            clear hN2 hS2 hS3 hpl2
            go_wp2_with fail
            refine (HSQ.out _).mono ?_
            rintro e w3 ⟨v3, rfl, ho3, hb3⟩
            have hR3 := hR2.below hb3
            have hQ3 := hQ2.below hb3
            have hW3 := hW2.trans (hb3.mono hW2.size)
            obtain ⟨ad3, cap3, rfl, -⟩ := row_cell ho3
            rw [hL3]
            obtain ⟨m0, m1, m2, f0, f1, f2⟩ := hR3
            obtain ⟨p0, p1, p2, q0, q1, q2⟩ := hQ3
            clear hR2 hQ2 ho3
            go_wp2_with fail
            refine bodyPost_ret (v := .tuple #[.agg #[.string ⟨#[]⟩, .string ⟨#[]⟩, .string (bs c)], .bool false]) (by simp [results, Tryd.results22, go_sem, p0, p1, p2, m0, m1, m2]) rfl ⟨(⟨#[]⟩, ⟨#[]⟩, (bs c)), false, rfl, by rw [HW.out]; rfl, ?_⟩
            exact set3 hW3 _ (Nat.le_refl _) _ _ _
    · have HW := hide (word_bad1 (tak_many hS))
      obtain ⟨m, hL, h3⟩ : ∃ m, (a :: c :: d :: P).length = m ∧ 3 ≤ m := ⟨_, rfl, by simp⟩
      have hd : decide ((2 : Int) < (m : Int)) = true := decide_eq_true (by omega)
      generalize (a :: c :: d :: P) = Q at *
      clear hN hS hpl
      go_enter Tryd.func22, Tryd.ntmps22
      go_wp2_with fail
      generalize ((w.alloc (.cells #[.string ⟨#[]⟩, .string ⟨#[]⟩, .string ⟨#[]⟩] 31)).alloc (.cells #[.string ⟨#[]⟩, .string ⟨#[]⟩, .string ⟨#[]⟩] 31)) = W0 at *
      refine (HSP.out W0).mono ?_
      rintro e w1 ⟨v, rfl, ho, hb1⟩
      have hR1 := hR0.below hb1
      have hQ1 := hQ0.below hb1
      have hW1 := hW0.trans (hb1.mono hW0.size)
      have hz := hR0.lt
      have hz2 := hQ0.lt
      obtain ⟨ad, cap, rfl, -⟩ := row_cell ho
      rw [hL]
      obtain ⟨m0, m1, m2, f0, f1, f2⟩ := hR1
      obtain ⟨p0, p1, p2, q0, q1, q2⟩ := hQ1
      clear hR0 hQ0 ho
      go_wp2_with fail
      refine bodyPost_ret (v := .tuple #[.agg #[.string ⟨#[]⟩, .string ⟨#[]⟩, .string ⟨#[]⟩], .bool false]) (by simp [results, Tryd.results22, go_sem, p0, p1, p2, m0, m1, m2]) rfl ⟨(⟨#[]⟩, ⟨#[]⟩, ⟨#[]⟩), false, rfl, by rw [HW.out]; rfl, ?_⟩
      exact set3 hW1 _ (Nat.le_refl _) _ _ _

end Go.Proofs.YtkakinakjnpbjaaDoor
