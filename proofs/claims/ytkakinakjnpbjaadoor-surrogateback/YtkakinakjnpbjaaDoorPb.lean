/- The walk of what reads a part: a name, a value, a device. -/
import Derived.Test.YtkakinakjnpbjaaDoorPa
namespace Go.Proofs.YtkakinakjnpbjaaDoor
set_option linter.unusedVariables false
set_option linter.unusedSimpArgs false
open Go.RowKit

/-- A word of lists as a word of texts. -/
def toF (x : W3) : Fd := (bs x.1, bs x.2.1, bs x.2.2)
/-- What a part is read as. -/
def Word (o : Option W3) (f : Fd) (ok : Bool) : Prop := match o with | some x => ok = true ∧ f = toF x | none => ok = false
theorem tok_bs (l : List UInt8) : tokB (bs l) = tokL l := by unfold tokB; rw [bs_list]
theorem low_bs (l : List UInt8) : lowS (bs l) = bs (lowL l) := by unfold lowS; rw [bs_list]; rfl
theorem word_bad1 {p : List UInt8} (h : takL 59 tokO p = none) : wordP p = none := by unfold wordP; rw [h]; rfl
theorem word_bad2 {p r d : List UInt8} (h : takL 59 tokO p = some (r, d)) (g : takL 61 valO r = none) : wordP p = none := by unfold wordP; rw [h]; show (takL 61 valO r).bind _ = none; rw [g]; rfl
theorem word_bad3 {p r d n v : List UInt8} (h : takL 59 tokO p = some (r, d)) (g : takL 61 valO r = some (n, v)) (k : tokL n = false) : wordP p = none := by unfold wordP; rw [h]; show (takL 61 valO r).bind _ = none; rw [g]; show nameP d (n, v) = none; unfold nameP; rw [if_neg (by rw [k]; decide)]
theorem word_good {p r d n v : List UInt8} (h : takL 59 tokO p = some (r, d)) (g : takL 61 valO r = some (n, v)) (k : tokL n = true) : wordP p = some (lowL n, v, d) := by unfold wordP; rw [h]; show (takL 61 valO r).bind _ = _; rw [g]; show nameP d (n, v) = _; unfold nameP; rw [if_pos k]

theorem set3 {n : Nat} {w W : World} (h : Below n w W) (B : Nat) (hB : n ≤ B) (x y z : Value) : Below n w (((W.setCell ⟨B, 0, none⟩ x).setCell ⟨B, 1, none⟩ y).setCell ⟨B, 2, none⟩ z) :=
  ((h.setCell (p := ⟨B, 0, none⟩) hB x).setCell (p := ⟨B, 1, none⟩) hB y).setCell (p := ⟨B, 2, none⟩) hB z

set_option maxHeartbeats 2000000 in
theorem wordOf_any (s : ByteArray) (w : World) (hs : s.size ≤ 100000) :
    Calls Tryd.prog 20 #[.string s] w fun e w' => ∃ f ok, e = .returned (.tuple #[fv f, .bool ok]) ∧ Word (wordP s.data.toList) f ok ∧ Below w.heap.size w w' := by
  have hB0 : Below w.heap.size w ((w.alloc (.cells #[.string ⟨#[]⟩, .string ⟨#[]⟩, .string ⟨#[]⟩] 31)).alloc (.cells #[.bool true] 4)) := ((Below.refl _ w).alloc (Nat.le_refl _) _).alloc (by simp) _
  have m0 : ((w.alloc (.cells #[.string ⟨#[]⟩, .string ⟨#[]⟩, .string ⟨#[]⟩] 31)).alloc (.cells #[.bool true] 4)).cell? ⟨w.heap.size, 0, none⟩ = some (.string ⟨#[]⟩) := by go_simp
  have m1 : ((w.alloc (.cells #[.string ⟨#[]⟩, .string ⟨#[]⟩, .string ⟨#[]⟩] 31)).alloc (.cells #[.bool true] 4)).cell? ⟨w.heap.size, 1, none⟩ = some (.string ⟨#[]⟩) := by go_simp
  have m2 : ((w.alloc (.cells #[.string ⟨#[]⟩, .string ⟨#[]⟩, .string ⟨#[]⟩] 31)).alloc (.cells #[.bool true] 4)).cell? ⟨w.heap.size, 2, none⟩ = some (.string ⟨#[]⟩) := by go_simp
  have f0 : ((w.alloc (.cells #[.string ⟨#[]⟩, .string ⟨#[]⟩, .string ⟨#[]⟩] 31)).alloc (.cells #[.bool true] 4)).frozen? ⟨w.heap.size, 0, none⟩ = false := by go_simp
  have f1 : ((w.alloc (.cells #[.string ⟨#[]⟩, .string ⟨#[]⟩, .string ⟨#[]⟩] 31)).alloc (.cells #[.bool true] 4)).frozen? ⟨w.heap.size, 1, none⟩ = false := by go_simp
  have f2 : ((w.alloc (.cells #[.string ⟨#[]⟩, .string ⟨#[]⟩, .string ⟨#[]⟩] 31)).alloc (.cells #[.bool true] 4)).frozen? ⟨w.heap.size, 2, none⟩ = false := by go_simp
  have c0 : ((w.alloc (.cells #[.string ⟨#[]⟩, .string ⟨#[]⟩, .string ⟨#[]⟩] 31)).alloc (.cells #[.bool true] 4)).cell? ⟨w.heap.size + 1, 0, none⟩ = some (.bool true) := by go_simp
  have k0 : ((w.alloc (.cells #[.string ⟨#[]⟩, .string ⟨#[]⟩, .string ⟨#[]⟩] 31)).alloc (.cells #[.bool true] 4)).frozen? ⟨w.heap.size + 1, 0, none⟩ = false := by go_simp
  have h59 := take59_any s true (w.heap.size + 1) _ hs c0 k0
  go_enter Tryd.func20, Tryd.ntmps20
  go_wp2_with fail
  generalize ((w.alloc (.cells #[.string ⟨#[]⟩, .string ⟨#[]⟩, .string ⟨#[]⟩] 31)).alloc (.cells #[.bool true] 4)) = W0 at *
  refine h59.mono ?_
  rintro e w1 ⟨a, d, ok, rfl, ha, htk, hb1, c1, k1⟩
  clear h59 c0 k0
  have h01 := hB0.trans (hb1.mono (Nat.le_succ _))
  have hl : w.heap.size < w.heap.size + 1 := Nat.lt_succ_self _
  have hs1 : w.heap.size + 1 < w1.heap.size := block_lt_of_cell (a := ⟨w.heap.size + 1, 0, none⟩) c1
  rw [← hb1.cell (p := ⟨w.heap.size, 0, none⟩) hl] at m0
  rw [← hb1.cell (p := ⟨w.heap.size, 1, none⟩) hl] at m1
  rw [← hb1.cell (p := ⟨w.heap.size, 2, none⟩) hl] at m2
  rw [← hb1.frozen (p := ⟨w.heap.size, 0, none⟩) hl] at f0
  rw [← hb1.frozen (p := ⟨w.heap.size, 1, none⟩) hl] at f1
  rw [← hb1.frozen (p := ⟨w.heap.size, 2, none⟩) hl] at f2
  have h61 := take61_any a ok (w.heap.size + 1) w1 ha c1 k1
  go_wp2_with fail
  refine h61.mono ?_
  rintro e w2 ⟨a2, d2, ok2, rfl, ha2, htk2, hb2, c2, k2⟩
  clear h61 c1 k1
  have h02 := h01.trans (hb2.mono (Nat.le_succ _))
  have hs2 : w.heap.size + 1 < w2.heap.size := block_lt_of_cell (a := ⟨w.heap.size + 1, 0, none⟩) c2
  rw [← hb2.cell (p := ⟨w.heap.size, 0, none⟩) hl] at m0
  rw [← hb2.cell (p := ⟨w.heap.size, 1, none⟩) hl] at m1
  rw [← hb2.cell (p := ⟨w.heap.size, 2, none⟩) hl] at m2
  rw [← hb2.frozen (p := ⟨w.heap.size, 0, none⟩) hl] at f0
  rw [← hb2.frozen (p := ⟨w.heap.size, 1, none⟩) hl] at f1
  rw [← hb2.frozen (p := ⟨w.heap.size, 2, none⟩) hl] at f2
  clear hb1 hb2 h01 hB0
  obtain ⟨x, hx⟩ : ∃ x, wordP s.data.toList = x := ⟨_, rfl⟩
  have HX : Hid ((ok2 = false ∧ x = none) ∨ (ok2 = true ∧ ∃ n v d', a2 = bs n ∧ d2 = bs v ∧ d = bs d' ∧ ((tokL n = false ∧ x = none) ∨ (tokL n = true ∧ x = some (lowL n, v, d'))))) := by
    unfold Hid
    rw [← hx]
    unfold Took at htk
    rw [if_pos rfl] at htk
    rcases h1 : takL 59 tokO s.data.toList with _ | ⟨r, d'⟩
    · rw [h1] at htk
      obtain rfl : ok = false := htk
      unfold Took at htk2
      rw [if_neg (by decide)] at htk2
      exact .inl ⟨htk2, word_bad1 h1⟩
    · rw [h1] at htk
      obtain ⟨rfl, rfl, rfl⟩ := htk
      unfold Took at htk2
      rw [if_pos rfl, bs_list] at htk2
      rcases h2 : takL 61 valO r with _ | ⟨n, v⟩
      · rw [h2] at htk2
        exact .inl ⟨htk2, word_bad2 h1 h2⟩
      · rw [h2] at htk2
        obtain ⟨rfl, rfl, rfl⟩ := htk2
        refine .inr ⟨rfl, n, v, d', rfl, rfl, rfl, ?_⟩
        cases hn : tokL n
        · exact .inl ⟨rfl, word_bad3 h1 h2 hn⟩
        · exact .inr ⟨rfl, word_good h1 h2 hn⟩
  have HW := hide hx
  clear hx htk htk2
  rcases HX.out with ⟨rfl, rfl⟩ | ⟨rfl, n, v, d', rfl, rfl, rfl, hn⟩
  · clear HX
    go_wp2_with fail
    refine bodyPost_ret (v := .tuple #[.agg #[.string ⟨#[]⟩, .string ⟨#[]⟩, .string ⟨#[]⟩], .bool false]) (by simp [results, Tryd.results20, go_sem, m0, m1, m2]) rfl ⟨(⟨#[]⟩, ⟨#[]⟩, ⟨#[]⟩), false, rfl, by rw [HW.out]; rfl, ?_⟩
    exact set3 h02 _ (Nat.le_refl _) _ _ _
  · clear HX
    have HT : Hid (tokB (bs n) = tokL n) := tok_bs n
    have HL : Hid (lowS (bs n) = bs (lowL n)) := low_bs n
    have HS : Hid ((bs n).size ≤ 1000000) := by unfold Hid; omega
    rcases hn with ⟨hn, rfl⟩ | ⟨hn, rfl⟩
    · rw [hn] at HT
      go_wp2_with fail
      refine (token_any (bs n) w2 HS.out).mono ?_
      rintro e w3 ⟨rfl, hb3⟩
      rw [HT.out]
      rw [← (stays hb3).1 _ _ (by omega)] at m0 m1 m2
      rw [← (stays hb3).2 _ _ (by omega)] at f0 f1 f2
      have h03 := h02.trans (hb3.mono h02.size)
      go_wp2_with fail
      refine bodyPost_ret (v := .tuple #[.agg #[.string ⟨#[]⟩, .string ⟨#[]⟩, .string ⟨#[]⟩], .bool false]) (by simp [results, Tryd.results20, go_sem, m0, m1, m2]) rfl ⟨(⟨#[]⟩, ⟨#[]⟩, ⟨#[]⟩), false, rfl, by rw [HW.out]; rfl, ?_⟩
      exact set3 h03 _ (Nat.le_refl _) _ _ _
    · rw [hn] at HT
      go_wp2_with fail
      refine (token_any (bs n) w2 HS.out).mono ?_
      rintro e w3 ⟨rfl, hb3⟩
      rw [HT.out]
      rw [← (stays hb3).1 _ _ (by omega)] at m0 m1 m2
      rw [← (stays hb3).2 _ _ (by omega)] at f0 f1 f2
      have h03 := h02.trans (hb3.mono h02.size)
      have hs3 := hb3.size
      clear h02 hb3
      go_wp2_with fail
      refine (lower_any (bs n) w3 HS.out).mono ?_
      rintro e w4 ⟨rfl, hb4⟩
      rw [HL.out]
      rw [← (stays hb4).1 _ _ (by omega)] at m0 m1 m2
      rw [← (stays hb4).2 _ _ (by omega)] at f0 f1 f2
      have h04 := h03.trans (hb4.mono h03.size)
      go_wp2_with fail
      refine bodyPost_ret (v := .tuple #[.agg #[.string (bs (lowL n)), .string (bs v), .string (bs d')], .bool true]) (by simp [results, Tryd.results20, go_sem, m0, m1, m2]) rfl ⟨(bs (lowL n), bs v, bs d'), true, rfl, by rw [HW.out]; exact ⟨rfl, rfl⟩, ?_⟩
      exact set3 h04 _ (Nat.le_refl _) _ _ _

end Go.Proofs.YtkakinakjnpbjaaDoor
